import Derived.Test.YthdmjmnkhlpnnabGreatDoorZ15
import Derived.Defers
import Derived.Recover
import Derived.Laws.IdiomStrings
import Derived.Laws.BytesArg
import Derived.Test.YthdmjmnkhlpnnabGreatDoorZ13
namespace Go.Proofs.YthdmjmnkhlpnnabGreatDoor
open Go.RowKit
theorem catch_idle (p:Addr) (w:World) :
  CallsD Tryz.prog 42 #[.pointer (some p)] .returning w fun e u' w' => e = .returned (.tuple #[]) /\ u' = .returning /\ w=w':=by
 refine callsD_of_wpS Tryz.func42 rfl fun c₀ cs hu => ?_
 apply wpS_seq
 apply wpS_region
 simp [wpOpsS,go_sem,recoverD,hu,Tryz.ntmps42,Exit.thenS]
 rw [show #[Value.pointer (some p)] ++ (Array.replicate 11 undef).setIfInBounds 3 Value.nilIface=#[.pointer (some p),undef,undef,undef,.nilIface,undef,undef,undef,undef,undef,undef,undef] from rfl]
 refine wpS_of_wp ?_
 go_wp2
 cases c₀
 simp_all [bodyPostS,results,Tryz.results42]
set_option maxRecDepth 20000 in
set_option maxHeartbeats 800000 in
theorem catch_gave (b:Nat) (x e:Int) (older:List PanicEntry) (w:World) (hc:w.cell? ⟨b,0,none⟩=some (.int .i64 x)) (hz:w.frozen? ⟨b,0,none⟩=false) (hp:b < w.heap.size) :
  CallsD Tryz.prog 42 #[.pointer (some ⟨b,0,none⟩)] (.panicking ({ v:=.iface 92 (.agg #[.int .i64 e]),recovered:=false } :: older)) w fun r u' w' =>
   r = .returned (.tuple #[]) /\ u' = .panicking ({ v:=.iface 92 (.agg #[.int .i64 e]),recovered:=true } :: older) /\ w'=(w.setCell ⟨b,0,none⟩ (.int .i64 e)).alloc (.cells #[.int .i64 e] 92):=by
 have hta:∀ w:World,(Instr.typeAssert (.iface 92 (.agg #[.int .i64 e])) 20 92 true).run Tryz.prog w = .ok (.tuple #[.agg #[.int .i64 e],.bool true]) w:=fun _ => by kernel_rfl
 refine callsD_of_wpS Tryz.func42 rfl fun c₀ cs hu => ?_
 apply wpS_seq
 apply wpS_region
 simp [wpOpsS,go_sem,recoverD,hu,Tryz.ntmps42,Exit.thenS]
 rw [show #[Value.pointer (some ⟨b,0,none⟩)] ++ (Array.replicate 11 undef).setIfInBounds 3 (.iface 92 (.agg #[.int .i64 e]))=#[.pointer (some ⟨b,0,none⟩),undef,undef,undef,.iface 92 (.agg #[.int .i64 e]),undef,undef,undef,undef,undef,undef,undef] from rfl]
 refine wpS_of_wp ?_
 go_wp2
 cases c₀
 simp_all [bodyPostS,results,Tryz.results42]
theorem Rd.setOther {w:World} {B:Nat} {s:ByteArray} {p:Nat} {tv:Value} {t:List UInt8} {M:Int} {fx:Option Addr} (h:Rd w B s p tv t M fx) {g T:Nat} {cs:Array Value} (hr:w.heap[g]? = some (.cells cs T (0,0))) (h58:T ≠ 90) (h5:T ≠ 5) (i:Nat) (u:Value):Rd (w.setCell ⟨g,i,none⟩ u) B s p tv t M fx:=by
 have hne:B ≠ g:=fun e => by
  have h1:=h.blk
  rw [e,hr] at h1
  injection h1 with h1;injection h1 with _ h1 _;exact h58 h1
 refine ⟨?_,?_,h.sml,h.fit,h.len,h.rom⟩
 ·rw [Below.heap_setCell _ _ _ _ (by exact hne)];exact h.blk
 ·obtain ⟨h1,h2⟩:=h.own
  refine ⟨h1,?_⟩
  rcases h2 with h2 | ⟨gg,cap,cur,hv,hg,hh,r⟩
  ·exact Or.inl h2
  ·refine Or.inr ⟨gg,cap,cur,hv,hg,?_,r⟩
   rw [Below.heap_setCell _ _ _ _ (fun e => by
     have e':gg=g:=e
     rw [e',hr] at hh
     injection hh with hh;injection hh with _ hh _;exact h5 hh)]
   exact hh
def Wyd (B:Nat) (s:ByteArray) (M:Int) (r:Tx) (w:World) (e:Ending) (w':World):Prop :=
 match r with
 | .ok p t => e = .returned (.int .i64 0) /\ (∃ tv fx,Rd w' B s p tv t M fx) /\ Kp 90 B w w'
 | .no k t => e = .returned (.int .i64 k) /\ (∃ p' tv fx,Rd w' B s p' tv t M fx) /\ Kp 90 B w w'
set_option maxRecDepth 20000 in
set_option maxHeartbeats 800000 in
theorem why_any (w:World) (B:Nat) (s:ByteArray) (M:Int) (tv:Value) (h:Rd w B s 0 tv [] M none) (hg:Glo w) (hB:1 < B) :
  Calls Tryz.prog 22 #[.func (.func 23) #[.pointer (some ⟨B,0,none⟩)] #[]] w fun e w' => Wyd B s M (inF s M) w e w':=by
 have hmf:∀ (fn:Fn) (first cap:Array Value) (w:World),(Instr.makeFunc fn first cap).run Tryz.prog w = .ok (.func fn first cap) w:=fun _ _ _ _ => rfl
 have hk0:Kp 90 B w (w.alloc (.cells #[.int .i64 0] 25)):=(Kp.refl _ _ _).alloc (Nat.le_of_lt h.lt) _
 have HBL:=hid (blocks_any (w.alloc (.cells #[.int .i64 0] 25)) B s M none tv (h.alloc _) (.inl rfl) (hg.kp hk0 hB) hB)
 have hcell:(w.alloc (.cells #[.int .i64 0] 25)).heap[w.heap.size]? = some (.cells #[.int .i64 0] 25 (0,0)):=heap_alloc_new w _
 have HCE:=hid hcell
 have HK0:=hid hk0
 have HLT:=hid h.lt
 clear h hg hcell hk0
 obtain ⟨r,hr⟩:∃ r,r=inF s M:=⟨_,rfl⟩
 rw [<- hr] at HBL ⊢
 clear hr
 cases r with
 | ok p t =>
  go_enter_defers Tryz.func22,Tryz.ntmps22
  go_wp2_with (go_at_call 23;refine HBL.out.mono ?_;rintro e w1 ⟨rfl,⟨tv1,fx1,hr1,hf1⟩,hk1⟩;have hce:=hk1.cells HCE.out (by decide) (by decide);have c0:w1.cell? ⟨w.heap.size,0,none⟩=some (.int .i64 0):=(by rw [cell_of_row w1 w.heap.size 0 _ 25 (0,0) hce];rfl);have f0:w1.frozen? ⟨w.heap.size,0,none⟩=false:=(by simp [World.frozen?,hce]);have HE:=hid hce;clear hce)
  have c1:(w1.setCell ⟨w.heap.size,0,none⟩ (.int .i64 0)).cell? ⟨w.heap.size,0,none⟩=some (.int .i64 0):=by rw [cell_of_row _ w.heap.size 0 _ 25 (0,0) (blk_set HE.out 0 _)];rfl
  have HX:Hid (Wyd B s M (.ok p t) w (.returned (.int .i64 0)) (w1.setCell ⟨w.heap.size,0,none⟩ (.int .i64 0))):=⟨rfl,⟨tv1,fx1,hr1.setOther HE.out (by decide) (by decide) 0 _⟩,(HK0.out.trans hk1).setNew (Nat.le_of_lt HLT.out) (Nat.le_refl _) _⟩
  refine leaves_cons (f:=42) (args:=#[.pointer (some ⟨w.heap.size,0,none⟩)]) (by simp) (by simp [go_sem]) ?_
  refine (catch_idle ⟨w.heap.size,0,none⟩ _).mono ?_
  rintro e u' w'' ⟨rfl,rfl,rfl⟩
  simp [Leaves,settle,results,Tryz.results22,go_sem,c1]
  exact HX.out
 | no k t =>
  go_enter_defers Tryz.func22,Tryz.ntmps22
  go_wp2_with (go_at_call 23;refine HBL.out.mono ?_;rintro e w1 ⟨rfl,⟨p1,tv1,fx1,hr1⟩,hk1⟩;have hce:=hk1.cells HCE.out (by decide) (by decide);have c0:w1.cell? ⟨w.heap.size,0,none⟩=some (.int .i64 0):=(by rw [cell_of_row w1 w.heap.size 0 _ 25 (0,0) hce];rfl);have f0:w1.frozen? ⟨w.heap.size,0,none⟩=false:=(by simp [World.frozen?,hce]);have HE:=hid hce;clear hce)
  have hsz:w.heap.size < w1.heap.size:=(Array.getElem?_eq_some_iff.1 HE.out).1
  have hz2:(w1.setCell ⟨w.heap.size,0,none⟩ (.int .i64 k)).heap.size=w1.heap.size:=by simp [World.setCell]
  have c1:((w1.setCell ⟨w.heap.size,0,none⟩ (.int .i64 k)).alloc (.cells #[.int .i64 k] 92)).cell? ⟨w.heap.size,0,none⟩=some (.int .i64 k):=by
   rw [World.cell?_of_block (w:=w1.setCell ⟨w.heap.size,0,none⟩ (.int .i64 k)) (Below.heap_alloc _ _ _ (by rw [hz2];exact hsz)),cell_of_row _ w.heap.size 0 _ 25 (0,0) (blk_set HE.out 0 _)];rfl
  have hkk:Kp 90 B w (w1.setCell ⟨w.heap.size,0,none⟩ (.int .i64 k)):=(HK0.out.trans hk1).setNew (Nat.le_of_lt HLT.out) (Nat.le_refl _) _
  have HX:Hid (Wyd B s M (.no k t) w (.returned (.int .i64 k)) ((w1.setCell ⟨w.heap.size,0,none⟩ (.int .i64 k)).alloc (.cells #[.int .i64 k] 92))):=⟨rfl,⟨p1,tv1,fx1,(hr1.setOther HE.out (by decide) (by decide) 0 _).alloc _⟩,hkk.alloc (by rw [hz2];have:=HLT.out;omega) _⟩
  refine leaves_cons (f:=42) (args:=#[.pointer (some ⟨w.heap.size,0,none⟩)]) (by simp) (by simp [go_sem]) ?_
  refine (catch_gave w.heap.size 0 k [] _ c0 f0 hsz).mono ?_
  rintro e u' w'' ⟨rfl,rfl,rfl⟩
  simp [Leaves,settle,results,Tryz.results22,go_sem,c1]
  exact HX.out
end Go.Proofs.YthdmjmnkhlpnnabGreatDoor
namespace Go.Proofs.YthdmjmnkhlpnnabGreatDoor
def ou (s:ByteArray) (M:Int):ByteArray × Nat × Nat :=
 match inF s M with
 | .ok p t => (⟨t.toArray⟩,(p+7) / 8,0)
 | .no e t => if e=1 then (⟨t.toArray⟩,0,1) else (⟨#[]⟩,0,e)
end Go.Proofs.YthdmjmnkhlpnnabGreatDoor
namespace Go.Proofs.YthdmjmnkhlpnnabGreatDoor
theorem cpy_no {M:Int} {b p n e:Nat} {t t':List UInt8} (h:cpy M b p n t = .no e t'):e ≠ 0:=by
 induction n generalizing t with
 | zero => simp [cpy] at h
 | succ n ih =>
  rw [cpy] at h
  split at h
  ·exact ih h
  ·injection h with h;omega
theorem agF_nz {M:Int} {zb:List Int} {s:ByteArray} {n p e:Nat} {t t':List UInt8} (h:agF M zb s n p t = .no e t'):e ≠ 0:=by
 unfold agF at h
 split at h
 ·rename_i e' hs
  have:=symF_no _ _ _ _ _ _ _ hs
  injection h with h;omega
 ·split at h
  ·injection h with h;omega
  ·split at h
   ·split at h
    ·injection h with h;omega
    ·exact cpy_no h
   ·injection h with h;omega
theorem ltF_nz {M:Int} {za zb:List Int} {s:ByteArray} {f p e:Nat} {t t':List UInt8} (h:ltF M za zb s f p t = .no e t'):e ≠ 0:=by
 induction f generalizing p t with
 | zero => simp [ltF] at h
 | succ f ih =>
  rw [ltF] at h
  split at h
  ·rename_i e' hs
   have:=symF_no _ _ _ _ _ _ _ hs
   injection h with h;omega
  ·split at h
   ·split at h
    ·exact ih h
    ·injection h with h;omega
   ·split at h
    ·simp at h
    ·split at h
     ·split at h
      ·split at h
       ·exact ih h
       ·rename_i e' t'' ha
        have:=agF_nz ha
        injection h with h;omega
      ·injection h with h;omega
     ·injection h with h;omega
theorem rawF_nz {M:Int} {s:ByteArray} {n a e:Nat} {t t':List UInt8} (h:rawF M s n a t = .no e t'):e ≠ 0:=by
 induction n generalizing a t with
 | zero => simp [rawF] at h
 | succ n ih =>
  rw [rawF] at h
  split at h
  ·split at h
   ·exact ih h
   ·injection h with h;omega
  ·injection h with h;omega
theorem owF_nz {s:ByteArray} {p e:Nat} (h:owF s p = .no e):e ≠ 0:=by
 unfold owF at h
 split at h
 ·split at h
  ·injection h with h;omega
  ·split at h
   ·split at h
    ·split at h
     ·rename_i e' hl
      have:=lnF_no hl
      injection h with h;omega
     ·split at h
      ·simp at h
      ·injection h with h;omega
    ·injection h with h;omega
   ·injection h with h;omega
 ·injection h with h;omega
theorem bkF_nz {M:Int} {s:ByteArray} {k p e:Nat} {t t':List UInt8} (h:bkF M s k p t = .no e t'):e ≠ 0:=by
 unfold bkF at h
 split at h
 ·unfold asF at h
  split at h
  ·split at h
   ·exact rawF_nz h
   ·injection h with h;omega
  ·injection h with h;omega
 ·split at h
  ·exact ltF_nz h
  ·split at h
   ·split at h
    ·rename_i e' ho
     have:=owF_nz ho
     injection h with h;omega
    ·exact ltF_nz h
   ·injection h with h;omega
theorem blF_nz {M:Int} {s:ByteArray} {f p e:Nat} {t t':List UInt8} (h:blF M s f p t = .no e t'):e ≠ 0:=by
 induction f generalizing p t with
 | zero => simp [blF] at h
 | succ f ih =>
  rw [blF] at h
  split at h
  ·split at h
   ·rename_i e' t'' hb
    have:=bkF_nz hb
    injection h with h;omega
   ·split at h
    ·simp at h
    ·exact ih h
  ·injection h with h;omega
theorem inF_no {s:ByteArray} {M:Int} {e:Nat} {t:List UInt8} (h:inF s M = .no e t):e ≠ 0:=blF_nz h
end Go.Proofs.YthdmjmnkhlpnnabGreatDoor
namespace Go.Proofs.YthdmjmnkhlpnnabGreatDoor
open Go.RowKit
set_option maxHeartbeats 800000 in
theorem unew_any (s:ByteArray) (m:Int) (w:World) :
  Calls Tryz.prog 21 #[.string s,.int .i64 m] w fun e w' => e = .returned (.pointer (some ⟨w.heap.size,0,none⟩)) /\ w'=w.alloc (.cells #[.string s,.int .i64 0,.int .i64 0,.slice none 0 0,.int .i64 (max m 0),.pointer none] 90):=by
 by_cases h:0<=m
 ·rw [show max m 0=m by omega]
  go_enter Tryz.func21,Tryz.ntmps21
  go_wp2
  all_goals go_ret
  all_goals first | exact ⟨rfl,rfl⟩ | (exfalso;omega)
 ·rw [show max m 0=0 by omega]
  go_enter Tryz.func21,Tryz.ntmps21
  go_wp2
  all_goals go_ret
  all_goals first | exact ⟨rfl,rfl⟩ | (exfalso;omega)
set_option maxHeartbeats 800000 in
theorem used_any (w:World) (B:Nat) (s:ByteArray) (p:Nat) (tv:Value) (t:List UInt8) (M:Int) (fx:Option Addr) (h:Rd w B s p tv t M fx) :
  Calls Tryz.prog 25 #[.pointer (some ⟨B,0,none⟩)] w fun e w' => e = .returned (.int .i64 ((p+7) / 8:Nat)) /\ w=w':=by
 obtain ⟨-,c1,c2,-,-,-⟩:=h.cell
 have hs:=h.sml
 have hfit:=h.fit
 obtain ⟨a,ha⟩:∃ a,a=p / 8:=⟨_,rfl⟩
 obtain ⟨b,hb⟩:∃ b,b=p % 8:=⟨_,rfl⟩
 obtain ⟨u,hu⟩:∃ u,u=(p+7) / 8:=⟨_,rfl⟩
 rw [<- ha] at c1
 rw [<- hb] at c2
 rw [<- hu]
 by_cases h0:0 < b
 ·have hua:u=a+1:=by omega
  have has:a<=s.size:=by omega
  clear ha hb hu hfit
  subst hua
  go_enter Tryz.func25,Tryz.ntmps25
  go_wp2
  go_ret
  exact ⟨ret_int (by omega),rfl⟩
 ·have hua:u=a:=by omega
  clear ha hb hu hfit
  subst hua
  go_enter Tryz.func25,Tryz.ntmps25
  go_wp2
  go_ret
  exact ⟨rfl,rfl⟩
theorem text_run (w:World) (B:Nat) (s:ByteArray) (p:Nat) (tv:Value) (t:List UInt8) (M:Int) (fx:Option Addr) (h:Rd w B s p tv t M fx):(convert 72 9 tv).run Tryz.prog w = .ok (.string ⟨t.toArray⟩) w:=by
 by_cases h0:0 < t.length
 ·obtain ⟨g,c,rfl,-⟩:=h.byte 0 h0
  refine run_convert_bytes_back w 72 9 5 ⟨g,0,none⟩ c t Tryz.underlying72 Tryz.underlying5 Tryz.underlying9 (fun j hj => ?_)
  obtain ⟨g',c',he,hc⟩:=h.byte j hj
  injection he with e1 _ _
  injection e1 with e1
  injection e1 with e1 _ _
  subst e1
  have e2:(⟨g,0,none⟩:Addr).add j=⟨g,j,none⟩:=by unfold Addr.add;split <;> simp_all
  rw [e2,hc]
  simp [List.getD_eq_getElem?_getD,List.getElem?_eq_getElem hj]
 ·have ht:t=[]:=List.eq_nil_of_length_eq_zero (by omega)
  subst ht
  obtain ⟨_,⟨rfl,_⟩ | ⟨g,cap,cur,rfl,hg,hh,_⟩⟩:=h.own
  ·exact run_convert_bytes_nil w 72 5 Tryz.underlying72 Tryz.underlying5 0 0 9 Tryz.underlying9
  ·exact run_convert_bytes_back w 72 9 5 ⟨g,0,none⟩ cap [] Tryz.underlying72 Tryz.underlying5 Tryz.underlying9 (fun j hj => by simp at hj)
set_option maxHeartbeats 800000 in
theorem text_any (w:World) (B:Nat) (s:ByteArray) (p:Nat) (tv:Value) (t:List UInt8) (M:Int) (fx:Option Addr) (h:Rd w B s p tv t M fx) :
  Calls Tryz.prog 24 #[.pointer (some ⟨B,0,none⟩)] w fun e w' => e = .returned (.string ⟨t.toArray⟩) /\ w=w':=by
 obtain ⟨-,-,-,c3,-,-⟩:=h.cell
 have hcv:=text_run w B s p tv t M fx h
 obtain ⟨ao,c,rfl⟩:=h.shape
 clear h
 go_enter Tryz.func24,Tryz.ntmps24
 go_wp2
 go_ret
 exact ⟨rfl,rfl⟩
theorem rd_new (w:World) (s:ByteArray) (m:Int) (hs:s.size<=16777216):Rd (w.alloc (.cells #[.string s,.int .i64 0,.int .i64 0,.slice none 0 0,.int .i64 (max m 0),.pointer none] 90)) w.heap.size s 0 (.slice none 0 0) [] (max m 0) none :=
 ⟨heap_alloc_new w _,⟨rfl,Or.inl ⟨rfl,rfl⟩⟩,hs,by omega,by simp;omega,by simp⟩
set_option maxRecDepth 20000 in
set_option maxHeartbeats 800000 in
theorem inflate_any (w:World) (s:ByteArray) (m:Int) (hs:s.size<=16777216) (hg:Glo w) (hw:1 < w.heap.size) :
  Calls Tryz.prog 11 #[.string s,.int .i64 m] w fun e w' => e = .returned (.tuple #[.string (ou s (max m 0)).1,.int .i64 (ou s (max m 0)).2.1,.int .i64 (ou s (max m 0)).2.2]) /\ Below w.heap.size w w':=by
 have hmf:∀ (fn:Fn) (first cap:Array Value) (w:World),(Instr.makeFunc fn first cap).run Tryz.prog w = .ok (.func fn first cap) w:=fun _ _ _ _ => rfl
 have hb0:Below w.heap.size w (w.alloc (.cells #[.string s,.int .i64 0,.int .i64 0,.slice none 0 0,.int .i64 (max m 0),.pointer none] 90)):=(Below.refl _ _).alloc (Nat.le_refl _) _
 have HW:=hid (why_any _ w.heap.size s (max m 0) _ (rd_new w s m hs) (hg.below hb0 hw) hw)
 have HB0:=hid hb0
 clear hb0 hg
 cases hr:inF s (max m 0) with
 | ok p t =>
  rw [hr] at HW
  rw [show ou s (max m 0)=(⟨t.toArray⟩,(p+7) / 8,0) by unfold ou;rw [hr]]
  clear hr
  go_enter Tryz.func11,Tryz.ntmps11
  go_wp2_with (first | (go_at_call 21;refine (unew_any _ _ _).mono ?_;rintro e w1 ⟨rfl,rfl⟩) | (go_at_call 22;refine HW.out.mono ?_;rintro e w2 ⟨rfl,⟨tv,fx,hr2⟩,hk2⟩;have HR2:=hid hr2;clear hr2) | (go_at_call 24;refine (text_any _ _ _ _ _ _ _ _ HR2.out).mono ?_;rintro e w3 ⟨rfl,rfl⟩) | (go_at_call 25;refine (used_any _ _ _ _ _ _ _ _ HR2.out).mono ?_;rintro e w3 ⟨rfl,rfl⟩))
  go_ret3
  exact ⟨rfl,HB0.out.trans hk2.below⟩
 | no e t =>
  rw [hr] at HW
  have he0:=inF_no hr
  by_cases he1:e=1
  ·subst he1
   rw [show ou s (max m 0)=(⟨t.toArray⟩,0,1) by unfold ou;rw [hr];rfl]
   clear hr
   go_enter Tryz.func11,Tryz.ntmps11
   go_wp2_with (first | (go_at_call 21;refine (unew_any _ _ _).mono ?_;rintro e w1 ⟨rfl,rfl⟩) | (go_at_call 22;refine HW.out.mono ?_;rintro e w2 ⟨rfl,⟨p2,tv,fx,hr2⟩,hk2⟩;have HR2:=hid hr2;clear hr2) | (go_at_call 24;refine (text_any _ _ _ _ _ _ _ _ HR2.out).mono ?_;rintro e w3 ⟨rfl,rfl⟩))
   go_ret3
   exact ⟨rfl,HB0.out.trans hk2.below⟩
  ·rw [show ou s (max m 0)=(⟨#[]⟩,0,e) by unfold ou;rw [hr];simp only;rw [if_neg he1]]
   have b0:((e:Int) == 0)=false:=beq_eq_false_iff_ne.2 (by omega)
   have b1:((e:Int) == 1)=false:=beq_eq_false_iff_ne.2 (by omega)
   clear hr
   go_enter Tryz.func11,Tryz.ntmps11
   go_wp2_with (first | (go_at_call 21;refine (unew_any _ _ _).mono ?_;rintro e w1 ⟨rfl,rfl⟩) | (go_at_call 22;refine HW.out.mono ?_;rintro e w2 ⟨rfl,⟨p2,tv,fx,hr2⟩,hk2⟩))
   go_ret3
   exact ⟨rfl,HB0.out.trans hk2.below⟩
end Go.Proofs.YthdmjmnkhlpnnabGreatDoor
namespace Go.Proofs.YthdmjmnkhlpnnabGreatDoor
theorem ba_ext {a b:ByteArray} (h:a.data.toList=b.data.toList):a=b:=ByteArray.ext (Array.toList_inj.1 h)
theorem ba_app (a b:ByteArray):(a ++ b).data.toList=a.data.toList ++ b.data.toList:=by rw [ByteArray.data_append,Array.toList_append]
theorem ba_ext_list (a:ByteArray) (i j:Nat):(a.extract i j).data.toList=(a.data.toList.take j).drop i:=by
 rw [ByteArray.data_extract,Array.toList_extract]
 exact List.extract_eq_drop_take'
theorem ba_of (l:List UInt8):(⟨l.toArray⟩:ByteArray).data.toList=l:=rfl
theorem ba_self (a:ByteArray):a=⟨a.data.toList.toArray⟩:=ba_ext (by simp)
theorem ba_size (l:List UInt8):(⟨l.toArray⟩:ByteArray).size=l.length:=by show l.toArray.size=_;simp
theorem lft_div {q n:Nat} (h:8*n=q+lft q):(q+7) / 8=n:=by unfold lft at h;omega
theorem Dfl.ou {lv:Nat} {t o:List UInt8} (h:Dfl lv t o) (x:List UInt8) (M:Int) (hM:(t.length:Int)<=M):ou ⟨(o ++ x).toArray⟩ M=(⟨t.toArray⟩,o.length,0):=by
 obtain ⟨q,hq,hl,h0⟩:=h.reads x M hM
 unfold Go.Proofs.YthdmjmnkhlpnnabGreatDoor.ou
 rw [hq]
 simp only
 rw [lft_div hl]
theorem Dfl.ne {lv:Nat} {t o:List UInt8} (h:Dfl lv t o):0 < o.length:=by
 obtain ⟨q,hq,hl,h0⟩:=h.reads [] t.length (Int.le_refl _)
 omega
theorem Dfl.cut {lv:Nat} {t o:List UInt8} (h:Dfl lv t o) (c:Nat) (hc:c < o.length):∃ t',Go.Proofs.YthdmjmnkhlpnnabGreatDoor.ou ⟨(o.take c).toArray⟩ t.length=(⟨t'.toArray⟩,0,1) /\ t' <+: t:=by
 obtain ⟨q,hq,hl,h0⟩:=h.reads [] t.length (Int.le_refl _)
 rw [List.append_nil] at hq
 have hb:Beg ⟨(o.take c).toArray⟩ ⟨o.toArray⟩:=⟨by rw [ba_size,ba_size,List.length_take];omega,fun i hi => by
  rw [ba_size,List.length_take] at hi
  unfold byu
  rw [ba_of,ba_of,List.getD_eq_getElem?_getD,List.getD_eq_getElem?_getD,List.getElem?_take,if_pos (by omega)]⟩
 obtain ⟨t',h1,h2⟩:=inF_cut hb hq (by rw [ba_size,List.length_take];unfold lft at hl;omega)
 refine ⟨t',?_,h2⟩
 unfold Go.Proofs.YthdmjmnkhlpnnabGreatDoor.ou
 rw [h1]
 rfl
end Go.Proofs.YthdmjmnkhlpnnabGreatDoor
