import Derived.Test.YthdmjmnkhlpnnabGreatDoorY03
import Derived.Test.YthdmjmnkhlpnnabGreatDoorY08
import Derived.Test.YthdmjmnkhlpnnabGreatDoorY07
import Derived.Test.YthdmjmnkhlpnnabGreatDoorZ15
import Derived.Deep.DeepCutAuto
namespace Go.Proofs.YthdmjmnkhlpnnabGreatDoor
open Go.RowKit
def cd0:Array Value:=cd4 (fun _ => 0) (fun _ => 0) (fun _ => 0) (.slice none 0 0)
def Rod (B:Nat) (s:ByteArray) (tv:Value) (t:List UInt8) (M:Int) (r:Cs) (w:World) (e:Ending) (w':World):Prop :=
 match r with
 | .ok za zb q => ∃ ca cb,e = .returned (.tuple #[ca,cb]) /\ Coder w' za ca /\ Coder w' zb cb /\ Rf w' B s q tv t M 0 /\ Kp 143 B w w'
 | .no k => e = .returned (.tuple #[.agg cd0,.agg cd0]) /\ (∃ p',Rf w' B s p' tv t M k) /\ Kp 143 B w w'
structure Three (w:World) (n:Nat):Prop where
 one:w.heap[n]? = some (.cells cd0 146 (0,0))
 two:w.heap[n+1]? = some (.cells cd0 146 (0,0))
 tri:w.heap[n+2]? = some (.cells cd0 146 (0,0))
theorem Three.kp {B:Nat} {w w':World} {n:Nat} (h:Three w n) (hk:Kp 143 B w w'):Three w' n :=
 ⟨hk.cells h.one (by decide) (by decide),hk.cells h.two (by decide) (by decide),hk.cells h.tri (by decide) (by decide)⟩
theorem start_three (w:World):Three (((w.alloc (.cells cd0 146)).alloc (.cells cd0 146)).alloc (.cells cd0 146)) w.heap.size /\ (((w.alloc (.cells cd0 146)).alloc (.cells cd0 146)).alloc (.cells cd0 146)).heap.size=w.heap.size+3:=by
 obtain ⟨o,ho⟩:∃ o:Obj,o = .cells cd0 146:=⟨_,rfl⟩
 rw [<- ho]
 have s1:(w.alloc o).heap.size=w.heap.size+1:=by simp
 have s2:((w.alloc o).alloc o).heap.size=w.heap.size+2:=by simp
 have s3:(((w.alloc o).alloc o).alloc o).heap.size=w.heap.size+3:=by simp
 have b2:Below (w.alloc o).heap.size (w.alloc o) ((w.alloc o).alloc o):=(Below.refl _ _).alloc (Nat.le_refl _) o
 have b3:Below ((w.alloc o).alloc o).heap.size ((w.alloc o).alloc o) (((w.alloc o).alloc o).alloc o):=(Below.refl _ _).alloc (Nat.le_refl _) o
 have e1:=heap_alloc_new w o
 have e2:=heap_alloc_new (w.alloc o) o
 have e3:=heap_alloc_new ((w.alloc o).alloc o) o
 rw [s1] at e2
 rw [s2] at e3
 refine ⟨⟨?_,?_,?_⟩,s3⟩
 ·rw [b3.block _ (by omega),b2.block _ (by omega),e1,ho]
 ·rw [b3.block _ (by omega),e2,ho]
 ·rw [e3,ho]
def ordI:List Int:=ord.map Int.ofNat
theorem ordI_get:∀ k,k < 19->ordI.getD k 0=((ord.getD k 0:Nat):Int):=by decide
theorem ordI_nums:nums ordI=#[Value.int .i64 16,Value.int .i64 17,Value.int .i64 18,Value.int .i64 0,Value.int .i64 8,Value.int .i64 7,Value.int .i64 9,Value.int .i64 6,Value.int .i64 10,Value.int .i64 5,Value.int .i64 11,Value.int .i64 4,Value.int .i64 12,Value.int .i64 3,Value.int .i64 13,Value.int .i64 2,Value.int .i64 14,Value.int .i64 1,Value.int .i64 15]:=rfl
theorem Rf.setNew {w:World} {B:Nat} {s:ByteArray} {p:Nat} {tv:Value} {t:List UInt8} {M:Int} {E:Nat} (h:Rf w B s p tv t M E) {g:Nat} {l:List Int} (hr:Row w g l) (i:Nat) (u:Value):Rf (w.setCell ⟨g,i,none⟩ u) B s p tv t M E:=by
 obtain ⟨far,hbk⟩:=h.blk
 have hne:B ≠ g:=fun e => by
  rw [e,show w.heap[g]? = _ from hr] at hbk
  injection hbk with h1;injection h1 with _ h1 _;exact absurd h1 (by decide)
 refine ⟨⟨far,?_⟩,?_,h.sml,h.fit,h.len,h.rom⟩
 ·rw [Below.heap_setCell _ _ _ _ (by exact hne)];exact hbk
 ·obtain ⟨h1,h2⟩:=h.own
  refine ⟨h1,?_⟩
  rcases h2 with h2 | ⟨gg,cap,cur,hv,hg,hh,r⟩
  ·exact Or.inl h2
  ·refine Or.inr ⟨gg,cap,cur,hv,hg,?_,r⟩
   rw [Below.heap_setCell _ _ _ _ (fun e => by
     have e':gg=g:=e
     rw [e',show w.heap[g]? = _ from hr] at hh
     injection hh with hh;injection hh with _ hh _;exact absurd hh (by decide))]
   exact hh
theorem Three.setNew {w:World} {n g:Nat} (h:Three w n) (hg:n+3<=g) (i:Nat) (u:Value):Three (w.setCell ⟨g,i,none⟩ u) n:=by
 refine ⟨?_,?_,?_⟩
 ·rw [Below.heap_setCell _ _ _ _ (by show n ≠ g;omega)];exact h.one
 ·rw [Below.heap_setCell _ _ _ _ (by show n+1 ≠ g;omega)];exact h.two
 ·rw [Below.heap_setCell _ _ _ _ (by show n+2 ≠ g;omega)];exact h.tri
def z19:List Int:=List.replicate 19 0
theorem start_rows (w:World):Row ((w.alloc (.cells (nums ordI) 3)).alloc (.cells (nums z19) 3)) w.heap.size ordI /\ Row ((w.alloc (.cells (nums ordI) 3)).alloc (.cells (nums z19) 3)) (w.heap.size+1) z19:=by
 obtain ⟨o,ho⟩:∃ o:Obj,o = .cells (nums ordI) 3:=⟨_,rfl⟩
 obtain ⟨o2,ho2⟩:∃ o:Obj,o = .cells (nums z19) 3:=⟨_,rfl⟩
 rw [<- ho,<- ho2]
 have s1:(w.alloc o).heap.size=w.heap.size+1:=by simp
 have b2:Below (w.alloc o).heap.size (w.alloc o) ((w.alloc o).alloc o2):=(Below.refl _ _).alloc (Nat.le_refl _) o2
 have e1:=heap_alloc_new w o
 have e2:=heap_alloc_new (w.alloc o) o2
 rw [s1] at e2
 refine ⟨?_,?_⟩
 ·show ((w.alloc o).alloc o2).heap[w.heap.size]? = _
  rw [b2.block _ (by omega),e1,ho]
 ·show ((w.alloc o).alloc o2).heap[w.heap.size+1]? = _
  rw [e2,ho2]
theorem cd0_size:cd0.size=49:=cd4_size _ _ _ _
theorem cd0_one:cd0.all (·.oneCell')=true:=cd4_one _ _ _ _ _ _
theorem cd0_info:(Tryz.prog.info? 146).map (·.size)=some cd0.size:=info46' _ _ _ _
theorem Three.runs {w:World} {n:Nat} (h:Three w n) :
  (loadVar 146 ⟨n+2,0,none⟩).run Tryz.prog w = .ok (.agg cd0) w /\
  (storeVar 146 ⟨n,0,none⟩ (.agg cd0)).run Tryz.prog w = .ok () w /\
  (storeVar 146 ⟨n+1,0,none⟩ (.agg cd0)).run Tryz.prog w = .ok () w:=by
 refine ⟨run_loadVar_row w (n+2) _ _ cd0 (0,0) _ h.tri Tryz.underlying146 rfl cd0_info,?_,?_⟩
 ·have:=run_storeVar_row (P:=Tryz.prog) w n _ 146 cd0 cd0 h.one cd0_info rfl cd0_one
  rw [setRow_same h.one] at this
  exact this
 ·have:=run_storeVar_row (P:=Tryz.prog) w (n+1) _ 146 cd0 cd0 h.two cd0_info rfl cd0_one
  rw [setRow_same h.two] at this
  exact this
theorem rlengths_at (w:World) (B:Nat) (s:ByteArray) (p:Nat) (tv:Value) (t:List UInt8) (M:Int) (zc:List Int) (cv:Value) (N:Nat) (z:Int) (hz:z=N) (h:Rf w B s p tv t M 0) (hc:Coder w zc cv) (hm:zc.length=19) (hN:N<=400) :
  Calls Tryz.prog 139 #[.pointer (some ⟨B,0,none⟩),cv,.int .i64 z] w fun e w' => Rnd B s tv t M (lnF zc s N (N+1) [] p) w e w':=by
 subst hz
 exact rlengths_any w B s p tv t M zc cv N h hc hm hN
theorem full_at (ao:Option Addr) (n c:Nat) (zs:List Int) (w:World) (hn:zs.length=n) (hs:Seg w ao zs) (hm:n<=320) (hok:zs.any nl=false) :
  Calls Tryz.prog 138 #[.slice ao n c] w fun e w' => e = .returned (.bool (decide (wt zs=32768))) /\ w=w':=by
 subst hn
 exact full_any ao c zs w hs hm hok
theorem sum_at (ao:Option Addr) (n c:Nat) (zs:List Int) (w:World) (hn:zs.length=n) (hs:Seg w ao zs) (hm:n<=320) (hok:zs.any nl=false) :
  Calls Tryz.prog 140 #[.slice ao n c] w fun e w' => e = .returned (.int .i64 (sm zs)) /\ w=w':=by
 subst hn
 exact sum_any ao c zs w hs hm hok
theorem coder_at (ao:Option Addr) (n c:Nat) (zs:List Int) (w:World) (hn:zs.length=n) (hs:Seg w ao zs) (hm:n<=320) (hok:zs.any nl=false) (hw:wt zs<=32768) :
  Calls Tryz.prog 135 #[.slice ao n c] w fun e w' => ∃ sv,e = .returned (.agg (cd4 (cF zs) (fun j => cnt zs j) (cA zs) sv)) /\ w'.ownsRow w.heap.size 3 1 sv (plc zs 15) (ivs (st zs 15)) /\ Below w.heap.size w w':=by
 subst hn
 exact coder_any ao c zs w hs hm hok hw
theorem own_open' {w:World} {base n:Nat} {v:Value} {l:List Int} (h:w.ownsRow base 3 1 v n (ivs l)) (hn:l.length=n) (h0:0 < n):∃ g cap,v = .slice (some ⟨g,0,none⟩) n cap /\ n<=cap /\ cap<=maxLen /\ g < w.heap.size /\ ∀ j,j < l.length->w.cell? ⟨g,0+j,none⟩=some (.int .i64 (l.getD j 0)):=by
 subst hn
 exact own_open h h0
theorem wt_sm (zs:List Int) (hok:zs.any nl=false):(wt zs:Int)<=16384*sm zs:=by
 induction zs with
 | nil => simp [wt,sm]
 | cons z zs ih =>
  simp only [List.any_cons,Bool.or_eq_false_iff] at hok
  have h:=ih hok.2
  have h1:=hok.1
  simp [nl] at h1
  have e:(wt (z :: zs):Int)=(if 0 < z then 2 ^ (15 - z.toNat) else 0:Nat)+wt zs:=by simp [wt]
  rw [e,sm]
  by_cases h0:0 < z
  ·rw [if_pos h0]
   have h2:2 ^ (15 - z.toNat)<=2 ^ 14:=Nat.pow_le_pow_right (by omega) (by omega)
   have h3:(2:Nat) ^ 14=16384:=by decide
   omega
  ·rw [if_neg h0]
   omega
theorem may_turn (z:Int) (za zb:List Int) (ha:za.any nl=false) (hb:zb.any nl=false) (mm:Bool) (h:mm=((z == 0) || (!decide (wt za=32768) && (sm za != 1)) || (!decide (wt zb=32768) && decide (1 < sm zb)))) :
  (z ≠ 0 /\ mayL za=true /\ mayS zb=true) ↔ mm=false:=by
 rw [h,mayL_sm za ha,mayS_sm zb hb]
 by_cases h1:z=0
 ·simp [h1]
 ·by_cases h2:wt za=32768 <;> by_cases h3:sm za=1 <;> by_cases h4:wt zb=32768 <;> by_cases h5:sm zb<=1 <;> simp [h1,h2,h3,h4,h5] <;> omega
theorem Rf.setRow {w:World} {B:Nat} {s:ByteArray} {p:Nat} {tv:Value} {t:List UInt8} {M:Int} {E:Nat} (h:Rf w B s p tv t M E) {g:Nat} {cs:Array Value} (hr:w.heap[g]? = some (.cells cs 146 (0,0))) (cs':Array Value):Rf (w.setRow g cs') B s p tv t M E:=by
 obtain ⟨far,hbk⟩:=h.blk
 have hne:B ≠ g:=fun e => by
  rw [e,hr] at hbk
  injection hbk with h1;injection h1 with _ h1 _;exact absurd h1 (by decide)
 refine ⟨⟨far,(setRow_other _ _ _ _ hne).trans hbk⟩,?_,h.sml,h.fit,h.len,h.rom⟩
 obtain ⟨h1,h2⟩:=h.own
 refine ⟨h1,?_⟩
 rcases h2 with h2 | ⟨gg,cap,cur,hv,hg,hh,r⟩
 ·exact Or.inl h2
 ·refine Or.inr ⟨gg,cap,cur,hv,hg,(setRow_other _ _ _ _ (fun e => ?_)).trans hh,r⟩
  rw [e,hr] at hh
  injection hh with hh;injection hh with _ hh _;exact absurd hh (by decide)
theorem Kp.setRowNew {X:TypeId} {B:Nat} {a w:World} (h:Kp X B a w) (hB:B<=a.heap.size) {g:Nat} (hg:a.heap.size<=g) (cs:Array Value):Kp X B a (w.setRow g cs) :=
 ⟨below_row h.below (by omega) cs,fun k cs' T fr hk h1 h2 => by
  have:k < a.heap.size:=(Array.getElem?_eq_some_iff.1 hk).1
  rw [setRow_other _ _ _ _ (by omega)];exact h.other k cs' T fr hk h1 h2⟩
set_option maxRecDepth 20000 in
set_option maxHeartbeats 3200000 in
theorem rown_any (w:World) (B:Nat) (s:ByteArray) (p:Nat) (tv:Value) (t:List UInt8) (M:Int) (h:Rf w B s p tv t M 0) :
  Calls Tryz.prog 88 #[.pointer (some ⟨B,0,none⟩)] w fun e w' => Rod B s tv t M (owF s p) w e w':=by
 have hlt:=h.lt
 have hsm:=h.sml
 have H0:=hid (start_three w)
 have HR:=hid (((h.alloc (.cells cd0 146)).alloc (.cells cd0 146)).alloc (.cells cd0 146))
 have HK0:Hid (Kp 143 B w (((w.alloc (.cells cd0 146)).alloc (.cells cd0 146)).alloc (.cells cd0 146))):=(((Kp.refl _ _ _).alloc (Nat.le_of_lt hlt) _).alloc (by simp;omega) _).alloc (by simp;omega) _
 clear h
 obtain ⟨i0,hi,hz0,hz1,hz2⟩:=info_parts info3
 have hmk:∀ u:World,(Instr.makeSlice 23 (.int .i64 19) (.int .i64 19)).run Tryz.prog u =
   .ok (.slice (some ⟨u.heap.size,0,none⟩) 19 19) (u.alloc (.cells (nums z19) 3)):=fun u => by
  have h:=run_make (P:=Tryz.prog) u 23 3 i0 (.int .i64 0) Tryz.underlying23 hi hz0 .i64 .i64 19 19 (by omega) (Int.le_refl _) (by rw [hz2];omega) (by omega)
  rw [hz1,Nat.mul_one,show (Value.int IntKind.i64 0).cells=#[Value.int .i64 0] from rfl,show ((19:Int)).toNat=19 by omega,nums_made] at h
  exact h
 have HMK:=hid hmk
 clear hi hz0 hz1 hz2 hmk
 obtain ⟨R,hR⟩:∃ R,R=owF s p:=⟨_,rfl⟩
 rw [<- hR]
 have HRR:=hid hR
 clear hR
 go_enter Tryz.func88,Tryz.ntmps88
 go_upto_region 2 with fail
 rw [cd4_zero,show cd4 (fun _ => 0) (fun _ => 0) (fun _ => 0) (.slice none 0 0)=cd0 from rfl]
 generalize (((w.alloc (.cells cd0 146)).alloc (.cells cd0 146)).alloc (.cells cd0 146))=w0 at H0 HR HK0 ⊢
 have hn2:w.heap.size+1+1=w.heap.size+2:=rfl
 rw [hn2]
 obtain ⟨n,hn⟩:∃ n,n=w.heap.size:=⟨_,rfl⟩
 rw [<- hn] at H0 hlt ⊢
 have HNN:=hid hn
 clear hn
 go_upto_region 5 with (go_at_call 84;first | (refine (rnum_gen _ B s p2 tv t M E2 HR2.out (by omega) 4 (by omega)).mono ?_;rintro e w3 ⟨v3,p3,E3,hv3',rfl,hr3,hk3,hor3⟩;have hv3:v3 < 16:=hv3';clear hv3';have HR3:=hid hr3;have HK3:=hid hk3;clear hr3 hk3) | (refine (rnum_gen _ B s p1 tv t M E1 HR1.out (by omega) 5 (by omega)).mono ?_;rintro e w2 ⟨v2,p2,E2,hv2',rfl,hr2,hk2,hor2⟩;have hv2:v2 < 32:=hv2';clear hv2';have HR2:=hid hr2;have HK2:=hid hk2;clear hr2 hk2) | (refine (rnum_gen _ B s p tv t M 0 HR.out (by omega) 5 (by omega)).mono ?_;rintro e w1 ⟨v1,p1,E1,hv1',rfl,hr1,hk1,hor1⟩;have hv1:v1 < 32:=hv1';clear hv1';have HR1:=hid hr1;have HK1:=hid hk1;clear hr1 hk1))
 have HALL:Hid (E3=0 /\ p+14<=8*s.size /\ p3=p+14 /\ v1=val s p 5 /\ v2=val s (p+5) 5 /\ v3=val s (p+10) 4 ∨ E3=1 /\ ¬ p+14<=8*s.size):=by
  rcases hor3 with ⟨rfl,rfl,g3,rfl,g4⟩ | ⟨rfl,g3⟩
  ·rcases hor2 with ⟨-,rfl,g2,rfl,g5⟩ | ⟨g2,-⟩
   ·rcases hor1 with ⟨-,-,g1,rfl,g6⟩ | ⟨g1,-⟩
    ·exact .inl ⟨rfl,by omega,by omega,g6,g5,by rw [show p+10=p+5+5 by omega];exact g4⟩
    ·exact absurd g1 (by decide)
   ·exact absurd g2 (by decide)
  ·refine .inr ⟨rfl,fun h14 => g3 ?_⟩
   rcases hor2 with ⟨rfl,rfl,g2,rfl,g5⟩ | ⟨rfl,g2⟩
   ·rcases hor1 with ⟨-,-,g1,rfl,g6⟩ | ⟨g1,-⟩
    ·exact ⟨rfl,by omega⟩
    ·exact absurd g1 (by decide)
   ·exfalso
    apply g2
    rcases hor1 with ⟨rfl,-,g1,rfl,g6⟩ | ⟨rfl,g1⟩
    ·exact ⟨rfl,by omega⟩
    ·exact absurd ⟨trivial,by omega⟩ g1
 have hE3:E3=0 ∨ E3=1:=by
  rcases HALL.out with h | h
  ·exact .inl h.1
  ·exact .inr h.1
 have HT3:Hid (Three w3 n):=((H0.out.1.kp HK1.out).kp HK2.out).kp HK3.out
 have HK03:Hid (Kp 143 B w w3):=((HK0.out.trans HK1.out).trans HK2.out).trans HK3.out
 have hsz3:n+3<=w3.heap.size:=by
  have:=(HK1.out.trans HK2.out).trans HK3.out
  have:=this.size
  have:=H0.out.2
  omega
 clear hor1 hor2 hor3 HR1 HR2 HK1 HK2 HK3 HK0 H0 HR hn2
 have e4:=HR3.out.cell.2.2.2.2.1
 obtain ⟨mn,hmn⟩:∃ b:Bool,b=(decide (E3=0) && (decide (286 < v1+257) || decide (30 < v2+1))):=⟨_,rfl⟩
 have HMN:=hid hmn
 clear hmn
 go_cut [41] (fun b wx => b = .bool mn /\ wx=w3)
 case first =>
  rcases hE3 with rfl | rfl
  ·have d0:(((0:Nat):Int) == 0)=true:=rfl
   by_cases hA:286 < v1+257
   ·have d1:decide ((286:Int) < (v1:Int)+257)=true:=by simp;omega
    have HM:Hid (mn=true):=by show _=_;rw [HMN.out];simp [hA]
    go_wp2
    go_meet
    exact ⟨by rw [HM.out],rfl⟩
   ·have d1:decide ((286:Int) < (v1:Int)+257)=false:=by simp;omega
    by_cases hB:30 < v2+1
    ·have d2:decide ((30:Int) < (v2:Int)+1)=true:=by simp;omega
     have HM:Hid (mn=true):=by show _=_;rw [HMN.out];simp [hB]
     go_wp2
     go_meet
     exact ⟨by rw [HM.out],rfl⟩
    ·have d2:decide ((30:Int) < (v2:Int)+1)=false:=by simp;omega
     have HM:Hid (mn=false):=by show _=_;rw [HMN.out];simp [hA,hB]
     go_wp2
     go_meet
     exact ⟨by rw [HM.out],rfl⟩
  ·have d0:(((1:Nat):Int) == 0)=false:=rfl
   have HM:Hid (mn=false):=by show _=_;rw [HMN.out];simp
   go_wp2
   go_meet
   exact ⟨by rw [HM.out],rfl⟩
 case rest =>
 obtain ⟨rfl,rfl⟩:=hcut
 go_upto_if 41 with fail
 go_cut [41] (fun _ wx => ∃ (E q:Nat),Hid (Rf wx B s q tv t M E) /\ Hid (Kp 143 B w wx) /\ Hid (Three wx n) /\ n+3<=wx.heap.size /\ (E=0 /\ p+14<=8*s.size /\ q=p+14 /\ v1<=29 /\ v2<=29 /\ v3<=15 /\ Hid (v1=val s p 5 /\ v2=val s (p+5) 5 /\ v3=val s (p+10) 4) ∨ E ≠ 0 /\ Hid (R = .no E)))
 case first =>
  cases mn with
  | true =>
   have HN:Hid (E3=0 /\ R = .no 3):=by
    have hm:=HMN.out
    simp at hm
    rcases HALL.out with ⟨a1,a2,a3,a4,a5,a6⟩ | ⟨a1,a2⟩
    ·refine ⟨a1,?_⟩
     rw [HRR.out]
     exact owF_many a2 (by rw [<- a4,<- a5];omega)
    ·exact absurd hm.1 (by omega)
   obtain ⟨rfl,HN2⟩:∃ _:E3=0,Hid (R = .no 3):=⟨HN.out.1,HN.out.2⟩
   go_wp2_with (go_at_call 89;refine (stop_any _ _ _ _ _ _ _ 3 HR3.out).mono ?_;rintro e w4 ⟨rfl,hr4,hk4⟩;have HR4:=hid hr4;have HK4:=hid hk4;clear hr4 hk4)
   go_meet
   exact ⟨3,p3,HR4,HK03.out.trans HK4.out,HT3.out.kp HK4.out,by have:=HK4.out.size;omega,.inr ⟨by omega,HN2⟩⟩
  | false =>
   have HN:Hid (E3=0 /\ p+14<=8*s.size /\ p3=p+14 /\ v1<=29 /\ v2<=29 /\ v3<=15 /\ Hid (v1=val s p 5 /\ v2=val s (p+5) 5 /\ v3=val s (p+10) 4) ∨ E3 ≠ 0 /\ Hid (R = .no E3)):=by
    have hm:=HMN.out
    simp at hm
    rcases HALL.out with ⟨a1,a2,a3,a4,a5,a6⟩ | ⟨a1,a2⟩
    ·have:=hm a1
     have h16:=val_lt s (p+10) 4
     have e16:(2:Nat) ^ 4=16:=by decide
     exact .inl ⟨a1,a2,a3,by omega,by omega,by omega,a4,a5,a6⟩
    ·refine .inr ⟨by omega,?_⟩
     show R=_
     rw [HRR.out,a1]
     exact owF_end a2
   go_wp2
   go_meet
   exact ⟨E3,p3,HR3,HK03,HT3,hsz3,HN.out⟩
 case rest =>
 obtain ⟨E,q,HRc,HKc,HTc,hszc,hcase⟩:=hcut
 clear HR3 HK03 HT3 hsz3 HALL HMN e4 hE3
 have hmk:=HMK.out
 go_upto_region 8 with fail
 rw [<- ordI_nums]
 go_upto_region 9 with fail
 have HS:=hid (start_rows wc)
 have HRW:=hid ((HRc.out.alloc (.cells (nums ordI) 3)).alloc (.cells (nums z19) 3))
 have HKW:Hid (Kp 143 B w ((wc.alloc (.cells (nums ordI) 3)).alloc (.cells (nums z19) 3))):=(HKc.out.alloc (by omega) _).alloc (by simp;omega) _
 have HTW:Hid (Three ((wc.alloc (.cells (nums ordI) 3)).alloc (.cells (nums z19) 3)) n):=HTc.out.kp (((Kp.refl _ B _).alloc (by omega) _).alloc (by simp;omega) _)
 have hzW:((wc.alloc (.cells (nums ordI) 3)).alloc (.cells (nums z19) 3)).heap.size=wc.heap.size+2:=by simp
 obtain ⟨c,hc⟩:∃ c,c=wc.heap.size:=⟨_,rfl⟩
 rw [<- hc] at hszc hzW ⊢
 have HS2:Hid (Row ((wc.alloc (.cells (nums ordI) 3)).alloc (.cells (nums z19) 3)) c ordI /\ Row ((wc.alloc (.cells (nums ordI) 3)).alloc (.cells (nums z19) 3)) (c+1) z19):=by rw [hc];exact HS.out
 generalize (wc.alloc (.cells (nums ordI) 3)).alloc (.cells (nums z19) 3)=W at HS2 HRW HKW HTW hzW ⊢
 have hW:c+2<=W.heap.size:=by omega
 clear HS HRc HKc HTc hmk hzW hc
 go_wp2
 go_loopw [10] (fun iv wr => ∃ (k E q:Nat) (l:List Int),k<=v3+4 /\ iv = .int .i64 k /\ Hid (Row wr c ordI) /\ Hid (Row wr (c+1) l) /\ Hid (l.length=19 /\ l.any nl=false) /\ Hid (Rf wr B s q tv t M E) /\ Hid (Kp 143 B w wr) /\ Hid (Three wr n) /\ c+2<=wr.heap.size /\ (E=0 /\ p+14<=8*s.size /\ q=p+14+3*k /\ v1<=29 /\ v2<=29 /\ v3<=15 /\ Hid (v1=val s p 5 /\ v2=val s (p+5) 5 /\ v3=val s (p+10) 4) /\ Hid (l=clF s (p+14) k) ∨ E ≠ 0 /\ Hid (R = .no E))) (fun iv _ => v3+4 - (intOf iv).toNat)
 case atStart =>
  refine ⟨0,E,q,z19,by omega,rfl,HS2.out.1,HS2.out.2,⟨rfl,rfl⟩,HRW,HKW,HTW,hW,?_⟩
  rcases hcase with ⟨a1,a2,a3,a4,a5,a6,a7⟩ | a
  ·exact .inl ⟨a1,a2,by omega,a4,a5,a6,a7,rfl⟩
  ·exact .inr a
 case round =>
  clear HS2 HRW HKW HTW hW hcase
  obtain ⟨k,E,q,l,hk,rfl,hRo,hRl,hL,hR,hK,hT,hz,hcase⟩:=hrel
  have e4:=hR.out.cell.2.2.2.2.1
  have HF:=full_any (some ⟨c+1,0,none⟩) 19 l wr hRl.out.seg (by rw [hL.out.1];omega) hL.out.2
  rw [hL.out.1] at HF
  have HFU:=hid HF
  clear HF
  rcases hcase with ⟨rfl,h14,rfl,hv1',hv2',hv3',hV,hLC⟩ | ⟨hE,hRN⟩
  ·by_cases hkf:k < v3+4
   ·have b1:decide ((k:Int) < (v3:Int)+4)=true:=by simp;omega
    obtain ⟨o,ho⟩:∃ o,o=ord.getD k 0:=⟨_,rfl⟩
    have ho19:o < 19:=by rw [ho];exact ord_lt k (by omega)
    have HO:=hid ho
    clear ho
    have HG:=hid (rnum_gen wr B s (p+14+3*k) tv t M 0 hR.out (.inl rfl) 3 (by omega))
    go_upto_region 13 with (go_at_call 84;refine HG.out.mono ?_;rintro e w1 ⟨x,p1,E1,hx',rfl,hr1,hk1,hor⟩;have hx:x < 8:=hx';clear hx')
    have HOR:=hid hor
    have hro1:Row w1 c ordI:=hk1.cells hRo.out (by decide) (by decide)
    have hrl1:Row w1 (c+1) l:=hk1.cells hRl.out (by decide) (by decide)
    have cO:w1.cell? ⟨c,k,none⟩=some (.int .i64 (o:Int)):=by
     rw [hro1.cell (by show k < 19;omega),ordI_get k (by omega),HO.out]
    have cL:w1.cell? ⟨c+1,o,none⟩=some (.int .i64 (l.getD o 0)):=hrl1.cell (by rw [hL.out.1];exact ho19)
    have cF:w1.frozen? ⟨c+1,o,none⟩=false:=hrl1.free _
    have HR1:=hid hr1
    have HK1:=hid hk1
    have HRO1:=hid hro1
    have HRL1:=hid hrl1
    clear hr1 hk1 hro1 hrl1 hor e4
    go_wp2
    refine ⟨⟨k+1,E1,p1,l.set o x,by omega,by go_num,HRO1.out.other (by show c ≠ c+1;omega) _,HRL1.out.set _ _,⟨by rw [List.length_set];exact hL.out.1,any_set _ _ _ hL.out.2 (by unfold nl;simp;omega)⟩,HR1.out.setNew HRL1.out _ _,?_,(hT.out.kp HK1.out).setNew (by omega) _ _,?_,?_⟩,by simp [intOf];omega⟩
    ·exact (hK.out.trans HK1.out).setNew (by rw [<- HNN.out];omega) (by rw [<- HNN.out];show n<=c+1;omega) _
    ·have:=HK1.out.size
     simp
     omega
    ·rcases HOR.out with ⟨a1,-,a2,a3,a4⟩ | ⟨a1,a2⟩
     ·refine .inl ⟨a1,h14,by omega,hv1',hv2',hv3',hV,?_⟩
      show _=_
      rw [hLC.out,clF,<- HO.out,a4]
     ·refine .inr ⟨by omega,?_⟩
      show R=_
      rw [HRR.out,a1]
      obtain ⟨V1,V2,V3⟩:=hV.out
      exact owF_col h14 (by rw [<- V1,<- V2];omega) (by rw [<- V3];intro hh;exact a2 ⟨trivial,by omega⟩)
   ·have b1:decide ((k:Int) < (v3:Int)+4)=false:=by simp;omega
    obtain rfl:k=v3+4:=by omega
    obtain ⟨V1,V2,V3⟩:=hV.out
    have HV1:=hid V1
    have HV2:=hid V2
    have HV3:=hid V3
    have hmny:¬ (286 < 257+val s p 5 ∨ 30 < 1+val s (p+5) 5):=by rw [<- V1,<- V2];omega
    have hqs:=hR.out.fit
    have hcol:p+14+3*(4+val s (p+10) 4)<=8*s.size:=by rw [<- V3];omega
    have HMNY:=hid hmny
    have HCOL:=hid hcol
    clear V1 V2 V3 hmny hcol
    by_cases hw:wt l=32768
    ·have HO:=owF_rest h14 HMNY.out HCOL.out (by rw [<- HV3.out,show 4+v3=v3+4 by omega,<- hLC.out];exact hw)
     rw [<- HRR.out,<- HV1.out,<- HV2.out,<- HV3.out,show 4+v3=v3+4 by omega,<- hLC.out] at HO
     have hdf:decide (wt l=32768)=true:=by simp [hw]
     rw [hdf] at HFU
     have HCD:=hid (coder_at (some ⟨c+1,0,none⟩) 19 19 l wr hL.out.1 hRl.out.seg (by omega) hL.out.2 (by omega))
     obtain ⟨N,hN⟩:∃ N,N=257+v1+(1+v2):=⟨_,rfl⟩
     rw [<- hN] at HO
     have hN2:N<=400:=by omega
     have HN:=hid hN
     have HOO:=hid HO
     clear hw hdf HO hN
     cases hln:lnF l s N (N+1) [] (p+14+3*(v3+4)) with
     | no e7 =>
      have HLN:=hid hln
      have he7:=lnF_no hln
      have HRN:Hid (R = .no e7):=by show R=_;rw [HOO.out,hln]
      have b3:((e7:Int) != 0)=true:=by rw [bne_iff_ne];omega
      clear hln
      go_wp2_with (first | (go_at_call 139;refine (rlengths_at w5 B s _ tv t M l _ N _ (by rw [HN.out];push_cast;omega) HR5.out ⟨_,_,rfl,HO5.out⟩ hL.out.1 hN2).mono ?_;rw [HLN.out];rintro e w6 ⟨lv,rfl,⟨p6,hr6⟩,hk6⟩;have f4:=hr6.cell.2.2.2.2.1;have HR6:=hid hr6;have HK6:=hid hk6;have HT6:=hid (HT5.out.kp hk6);clear hr6 hk6) | (go_at_call 135;refine HCD.out.mono ?_;rintro e w5 ⟨sv5,rfl,ho5,hb5⟩;have HO5:=hid ho5;have HB5:=hid hb5;have HR5:=hid (hR.out.below hb5);have HK5:=hid (Kp.ofBelow (X:=143) hb5 (Nat.le_of_lt hR.out.lt));have HT5:=hid (hT.out.kp HK5.out);clear ho5 hb5) | (go_at_call 138;refine HFU.out.mono ?_;rintro e w' ⟨rfl,rfl⟩))
      refine ret_two cd0 _ (by kernel_rfl) rfl rfl rfl (by decide) ⟨show _ < 143 by decide,show _ < 143 by decide⟩ HT6.out.tri HT6.out.one HT6.out.two Tryz.underlying146 rfl cd0_info cd0_one ?_
      go_wp2
      refine bodyPost_ret (v:=.tuple #[.agg cd0,.agg cd0]) (results_cells2 Tryz.results88 _ _ n (n+1) 146 cd0 cd0 (0,0) _ rfl HT6.out.one rfl HT6.out.two Tryz.underlying146 rfl cd0_info cd0_info) rfl ?_
      rw [HRN.out]
      exact ⟨rfl,⟨_,HR6.out.drew⟩,((hK.out.trans HK5.out).trans HK6.out).drew⟩
     | ok l2 q2 =>
      have HLN:=hid hln
      obtain ⟨L1,L2,L3,L4⟩:=lnF_ok hln (by simp) (by simp) rfl (by omega)
      have HL1:=hid L1
      have HL2:=hid L2
      rw [hln] at HOO
      clear hln L1 L2
      have s0:(0:Int)<=(v1:Int)+257:=by omega
      have s2:(v1:Int)+257<=(N:Int):=by have:=HN.out;omega
      have s3:((v1:Int)+257).toNat=v1+257:=by omega
      go_wp2_with (first | (go_at_call 135;refine HCD.out.mono ?_;rintro e w5 ⟨sv5,rfl,ho5,hb5⟩;have HO5:=hid ho5;have HB5:=hid hb5;have HR5:=hid (hR.out.below hb5);have HK5:=hid (Kp.ofBelow (X:=143) hb5 (Nat.le_of_lt hR.out.lt));have HT5:=hid (hT.out.kp HK5.out);clear ho5 hb5) | (go_at_call 138;refine HFU.out.mono ?_;rintro e w' ⟨rfl,rfl⟩))
      refine (rlengths_at w5 B s _ tv t M l _ N _ (by rw [HN.out];push_cast;omega) HR5.out ⟨_,_,rfl,HO5.out⟩ hL.out.1 hN2).mono ?_
      rw [HLN.out]
      rintro e w6 ⟨lv,rfl,ho6,hr6,hk6⟩
      have f4:=hr6.cell.2.2.2.2.1
      rw [HL1.out] at ho6
      obtain ⟨g,cap,rfl,hcp,hcm,hgs,hcl⟩:=own_open' ho6 HL1.out (by have:=HN.out;omega)
      unfold maxLen at hcm
      have s1:(v1:Int)+257<=(cap:Int):=by omega
      have HR6:=hid hr6
      have HK6:=hid hk6
      have HT6:=hid (HT5.out.kp hk6)
      have HCL6:=hid hcl
      clear hr6 hk6 ho6 hcl
      have s4:N - (v1+257)=v2+1:=by have:=HN.out;omega
      have HFA:=hid (full_at (some ⟨g,0,none⟩) (v1+257) cap (l2.take (v1+257)) w6 (by rw [List.length_take,HL1.out];omega) (seg_take HCL6.out _) (by omega) (any_take HL2.out _))
      have HSB:=hid (seg_drop HCL6.out (v1+257))
      rw [Nat.zero_add] at HSB
      have HLB:Hid ((l2.drop (v1+257)).length=v2+1):=by show _=_;rw [List.length_drop,HL1.out];omega
      have HFB:=hid fun cb => full_at (some ⟨g,v1+257,none⟩) (v2+1) cb (l2.drop (v1+257)) w6 HLB.out HSB.out (by omega) (any_drop HL2.out _)
      have HMA:=hid (sum_at (some ⟨g,0,none⟩) (v1+257) cap (l2.take (v1+257)) w6 (by rw [List.length_take,HL1.out];omega) (seg_take HCL6.out _) (by omega) (any_take HL2.out _))
      have HMB:=hid fun cb => sum_at (some ⟨g,v1+257,none⟩) (v2+1) cb (l2.drop (v1+257)) w6 HLB.out HSB.out (by omega) (any_drop HL2.out _)
      obtain ⟨z,hz⟩:∃ z,z=l2.getD 256 0:=⟨_,rfl⟩
      have cz:w6.cell? ⟨g,256,none⟩=some (.int .i64 z):=by rw [hz];have:=HCL6.out 256 (by rw [HL1.out];have:=HN.out;omega);rw [Nat.zero_add] at this;exact this
      have HZV:=hid hz
      obtain ⟨fa,hfa⟩:∃ b,b=decide (wt (l2.take (v1+257))=32768):=⟨_,rfl⟩
      obtain ⟨fb,hfb⟩:∃ b,b=decide (wt (l2.drop (v1+257))=32768):=⟨_,rfl⟩
      obtain ⟨sa,hsa⟩:∃ b,b=sm (l2.take (v1+257)):=⟨_,rfl⟩
      obtain ⟨sb,hsb⟩:∃ b,b=sm (l2.drop (v1+257)):=⟨_,rfl⟩
      rw [<- hfa] at HFA
      rw [<- hfb] at HFB
      rw [<- hsa] at HMA
      rw [<- hsb] at HMB
      have HFAV:=hid hfa
      have HFBV:=hid hfb
      have HSAV:=hid hsa
      have HSBV:=hid hsb
      clear hz hfa hfb hsa hsb
      have HF1:Hid True:=trivial
      have HF2:Hid True:=trivial
      go_upto_region 28 with (first | (go_at_call 138;have hflag:=HF1;refine HFA.out.mono ?_;rintro e w' ⟨rfl,rfl⟩;clear hflag HF1) | (go_at_call 138;refine (HFB.out _).mono ?_;rintro e w' ⟨rfl,rfl⟩) | (go_at_call 140;have hflag:=HF2;refine HMA.out.mono ?_;rintro e w' ⟨rfl,rfl⟩;clear hflag HF2) | (go_at_call 140;refine (HMB.out _).mono ?_;rintro e w' ⟨rfl,rfl⟩))
      obtain ⟨mm,hmm⟩:∃ b:Bool,b=((z == 0) || (!fa && (sa != 1)) || (!fb && decide (1 < sb))):=⟨_,rfl⟩
      have HMT:Hid ((z ≠ 0 /\ mayL (l2.take (v1+257))=true /\ mayS (l2.drop (v1+257))=true) ↔ mm=false):=may_turn z _ _ (any_take HL2.out _) (any_drop HL2.out _) mm (by rw [<- HFAV.out,<- HFBV.out,<- HSAV.out,<- HSBV.out];exact hmm)
      obtain ⟨zb,hzb⟩:∃ b,b=(z == 0):=⟨_,rfl⟩
      obtain ⟨nb,hnb⟩:∃ b,b=(sa != 1):=⟨_,rfl⟩
      obtain ⟨gb,hgb⟩:∃ b,b=decide (1 < sb):=⟨_,rfl⟩
      rw [<- hzb,<- hnb,<- hgb] at hmm
      have HM:=hid hmm
      have k1:=hzb.symm
      have k2:=hnb.symm
      have k3:=hgb.symm
      clear hmm hzb hnb hgb
      go_cut [134] (fun b wx => b = .bool mm /\ wx=w6)
      case first =>
       cases zb with
       | true =>
        go_wp2
        go_meet
        exact ⟨by rw [HM.out];rfl,rfl⟩
       | false =>
        cases fa with
        | true =>
         cases fb with
         | true =>
          go_wp2
          go_meet
          exact ⟨by rw [HM.out];rfl,rfl⟩
         | false =>
          cases gb with
          | true =>
           go_wp2
           go_meet
           exact ⟨by rw [HM.out];rfl,rfl⟩
          | false =>
           go_wp2
           go_meet
           exact ⟨by rw [HM.out];rfl,rfl⟩
        | false =>
         cases nb with
         | true =>
          go_wp2
          go_meet
          exact ⟨by rw [HM.out];rfl,rfl⟩
         | false =>
          cases fb with
          | true =>
           go_wp2
           go_meet
           exact ⟨by rw [HM.out];rfl,rfl⟩
          | false =>
           cases gb with
           | true =>
            go_wp2
            go_meet
            exact ⟨by rw [HM.out];rfl,rfl⟩
           | false =>
            go_wp2
            go_meet
            exact ⟨by rw [HM.out];rfl,rfl⟩
      case rest =>
      obtain ⟨rfl,rfl⟩:=hcut
      cases mm with
      | true =>
       have HRN:Hid (R = .no 3):=by
        show R=_
        rw [HOO.out]
        show (if _ then _ else _)=_
        rw [Nat.add_comm 257 v1,<- HZV.out,if_neg (fun h => by have:=HMT.out.1 h;cases this)]
       clear HM HMT HOO
       go_wp2_with (go_at_call 89;refine (stop_any _ _ _ _ _ _ _ 3 HR6.out).mono ?_;rintro e w7 ⟨rfl,hr7,hk7⟩;have HR7:=hid hr7;have HK7:=hid hk7;have HT7:=hid (HT6.out.kp hk7);clear hr7 hk7)
       refine ret_two cd0 _ (by kernel_rfl) rfl rfl rfl (by decide) ⟨show _ < 143 by decide,show _ < 143 by decide⟩ HT7.out.tri HT7.out.one HT7.out.two Tryz.underlying146 rfl cd0_info cd0_one ?_
       go_wp2
       refine bodyPost_ret (v:=.tuple #[.agg cd0,.agg cd0]) (results_cells2 Tryz.results88 _ _ n (n+1) 146 cd0 cd0 (0,0) _ rfl HT7.out.one rfl HT7.out.two Tryz.underlying146 rfl cd0_info cd0_info) rfl ?_
       rw [HRN.out]
       exact ⟨rfl,⟨_,HR7.out.drew⟩,(((hK.out.trans HK5.out).trans HK6.out).trans HK7.out).drew⟩
      | false =>
       have hmay:=HMT.out.2 rfl
       have HRN:Hid (R = .ok (l2.take (v1+257)) (l2.drop (v1+257)) q2):=by
        show R=_
        rw [HOO.out]
        show (if _ then _ else _)=_
        rw [Nat.add_comm 257 v1,<- HZV.out,if_pos hmay]
       have hwa:wt (l2.take (v1+257))<=32768:=by
        have h1:=hmay.2.1
        rw [mayL_sm _ (any_take HL2.out _)] at h1
        have h2:=wt_sm _ (any_take HL2.out (v1+257))
        simp at h1
        omega
       have hwb:wt (l2.drop (v1+257))<=32768:=by
        have h1:=hmay.2.2
        rw [mayS_sm _ (any_drop HL2.out _)] at h1
        have h2:=wt_sm _ (any_drop HL2.out (v1+257))
        simp at h1
        omega
       have HCA:=hid (coder_at (some ⟨g,0,none⟩) (v1+257) cap (l2.take (v1+257)) _ (by rw [List.length_take,HL1.out];omega) (seg_take HCL6.out _) (by omega) (any_take HL2.out _) hwa)
       have HWB:=hid hwb
       have HZ6:=hid HK6.out.size
       have HZ5:=hid HK5.out.size
       have HF3:Hid True:=trivial
       obtain ⟨za,hza⟩:∃ za,za=l2.take (v1+257):=⟨_,rfl⟩
       obtain ⟨zb',hzb'⟩:∃ zb',zb'=l2.drop (v1+257):=⟨_,rfl⟩
       have HAB:=hid (any_drop HL2.out (v1+257))
       rw [<- hza] at HCA HRN
       rw [<- hzb'] at HLB HSB HRN HWB HAB
       clear hmay hwa hwb HM HMT HOO hza hzb'
       go_wp2_with (first | (obtain ⟨soa,sca,rfl⟩:=own_shape HOA7.out;refine wpList_store_row rfl 146 _ _ rfl n (cd4 (cF za) (fun j => (cnt za j:Int)) (cA za) (.slice soa (plc za 15) sca)) rfl rfl 146 _ (by exact HT8.out.one) (info46' _ _ _ _) (by rw [cd0_size,cd4_size]) (cd4_one _ _ _ _ _ _) ?_) | (obtain ⟨sob,scb,rfl⟩:=own_shape HOB8.out;refine wpList_store_row rfl 146 _ _ rfl (n+1) (cd4 (cF zb') (fun j => (cnt zb' j:Int)) (cA zb') (.slice sob (plc zb' 15) scb)) rfl rfl 146 _ (by exact (setRow_other _ _ _ _ (by omega)).trans HT8.out.two) (info46' _ _ _ _) (by rw [cd0_size,cd4_size]) (cd4_one _ _ _ _ _ _) ?_) | (go_at_call 135;have hflag:=HF3;refine HCA.out.mono ?_;rintro e w7 ⟨sva,rfl,hoa,hba⟩;have HOA7:=hid hoa;have HB7:=hid hba;clear hoa hba hflag HF3) | (go_at_call 135;refine (coder_at (some ⟨g,v1+257,none⟩) (v2+1) _ zb' w7 HLB.out (HSB.out.below HB7.out) (by omega) HAB.out HWB.out).mono ?_;rintro e w8 ⟨svb,rfl,hob,hbb⟩;have HOB8:=hid hob;have HB8:=hid hbb;have HK78:=hid ((Kp.ofBelow (X:=143) HB7.out (Nat.le_of_lt HR6.out.lt)).trans (Kp.ofBelow HB8.out (Nat.le_trans (Nat.le_of_lt HR6.out.lt) HB7.out.size)));have HT8:=hid (HT6.out.kp HK78.out);clear hob hbb))
       have z7:=HB7.out.size
       have z8:=HB8.out.size
       have z6:=(Array.getElem?_eq_some_iff.1 HT6.out.tri).1
       have R2s:=fun cs => (setRow_other w8 n (n+1) cs (by omega)).trans HT8.out.two
       have hA1:=fun cs => setRow_heap w8 n _ cs 146 _ HT8.out.one
       have hA2:=fun cs cs2 => (setRow_other (w8.setRow n cs) (n+1) n cs2 (by omega)).trans (hA1 cs)
       have hB1:=fun cs cs2 => setRow_heap (w8.setRow n cs) (n+1) _ cs2 146 _ (R2s cs)
       refine bodyPost_ret (v:=.tuple #[.agg (cd4 (cF za) (fun j => (cnt za j:Int)) (cA za) (.slice soa (plc za 15) sca)),.agg (cd4 (cF zb') (fun j => (cnt zb' j:Int)) (cA zb') (.slice sob (plc zb' 15) scb))]) (results_cells2 Tryz.results88 _ _ n (n+1) 146 _ _ (0,0) _ rfl (hA2 _ _) rfl (hB1 _ _) Tryz.underlying146 rfl (info46' _ _ _ _) (info46' _ _ _ _)) rfl ?_
       rw [HRN.out]
       refine ⟨_,_,rfl,⟨_,_,rfl,own_setRow (own_setRow (own_bel HOA7.out HB8.out) HT8.out.one (by omega)) (R2s _) (by omega)⟩,⟨_,_,rfl,own_setRow (own_setRow HOB8.out HT8.out.one (by omega)) (R2s _) (by omega)⟩,?_,?_⟩
       ·exact ((((HR6.out.below HB7.out).below HB8.out).setRow HT8.out.one _).setRow (R2s _) _)
       ·have hk8:=((hK.out.trans HK5.out).trans HK6.out).trans HK78.out
        exact (hk8.setRowNew (by rw [<- HNN.out];omega) (by rw [<- HNN.out];omega) _).setRowNew (by rw [<- HNN.out];omega) (by rw [<- HNN.out];omega) _
    ·have HN:Hid (R = .no 3):=by
      show R=_
      rw [HRR.out]
      exact owF_wt h14 HMNY.out HCOL.out (by rw [<- HV3.out,show 4+v3=v3+4 by omega,<- hLC.out];exact hw)
     have hdf:decide (wt l=32768)=false:=by simp [hw]
     rw [hdf] at HFU
     clear hw hdf
     go_wp2_with (first | (go_at_call 138;refine HFU.out.mono ?_;rintro e w' ⟨rfl,rfl⟩) | (go_at_call 89;refine (stop_any _ _ _ _ _ _ _ 3 hR.out).mono ?_;rintro e w4 ⟨rfl,hr4,hk4⟩;have f4:=hr4.cell.2.2.2.2.1;have HR4:=hid hr4;have HK4:=hid hk4;have HT4:=hid (hT.out.kp hk4);clear hr4 hk4))
     refine ret_two cd0 _ (by kernel_rfl) rfl rfl rfl (by decide) ⟨show _ < 143 by decide,show _ < 143 by decide⟩ HT4.out.tri HT4.out.one HT4.out.two Tryz.underlying146 rfl cd0_info cd0_one ?_
     go_wp2
     refine bodyPost_ret (v:=.tuple #[.agg cd0,.agg cd0]) (results_cells2 Tryz.results88 _ _ n (n+1) 146 cd0 cd0 (0,0) _ rfl HT4.out.one rfl HT4.out.two Tryz.underlying146 rfl cd0_info cd0_info) rfl ?_
     rw [HN.out]
     exact ⟨rfl,⟨_,HR4.out.drew⟩,(hK.out.trans HK4.out).drew⟩
  ·have b2:((E:Int) == 0)=false:=by rw [beq_eq_false_iff_ne];omega
   have b3:((E:Int) != 0)=true:=by rw [bne_iff_ne];omega
   obtain ⟨bk,hbk⟩:∃ b,b=decide ((k:Int) < (v3:Int)+4):=⟨_,rfl⟩
   have b1:=hbk.symm
   obtain ⟨bf,hbf⟩:∃ b,b=decide (wt l=32768):=⟨_,rfl⟩
   rw [<- hbf] at HFU
   clear hbk hbf
   cases bk <;> cases bf
   all_goals
    go_wp2_with (go_at_call 138;refine HFU.out.mono ?_;rintro e w' ⟨rfl,rfl⟩)
    refine ret_two cd0 _ (by kernel_rfl) rfl rfl rfl (by decide) ⟨show _ < 143 by decide,show _ < 143 by decide⟩ hT.out.tri hT.out.one hT.out.two Tryz.underlying146 rfl cd0_info cd0_one ?_
    go_wp2
    refine bodyPost_ret (v:=.tuple #[.agg cd0,.agg cd0]) (results_cells2 Tryz.results88 _ _ n (n+1) 146 cd0 cd0 (0,0) _ rfl hT.out.one rfl hT.out.two Tryz.underlying146 rfl cd0_info cd0_info) rfl ?_
    rw [hRN.out]
    exact ⟨rfl,⟨_,hR.out.drew⟩,hK.out.drew⟩
end Go.Proofs.YthdmjmnkhlpnnabGreatDoor
