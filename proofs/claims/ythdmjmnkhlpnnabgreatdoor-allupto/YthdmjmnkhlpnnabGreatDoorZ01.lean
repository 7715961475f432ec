import Derived.Test.YthdmjmnkhlpnnabGreatDoorRows
import Derived.WalkKit
import Derived.WalkLawsBesides
import Derived.LoopTactic
import Derived.Below
import Derived.Deep.QuietTactic
import Derived.BigQuiet
import Derived.Deep.AppendLies
import Derived.Laws.BitsLemmas
import Derived.Deep.RegionWith
import Derived.RegionDies
namespace Go.Proofs.YthdmjmnkhlpnnabGreatDoor
open Go.RowKit
theorem hid {p:Prop} (h:p):Hid p:=h
def byt (s:ByteArray) (i:Nat):Nat:=(s.data.toList.getD i 0).toNat
def bitAt (s:ByteArray) (p:Nat):Nat:=byt s (p / 8) / 2 ^ (p % 8) % 2
def val (s:ByteArray) (p:Nat):Nat->Nat
 | 0 => 0
 | n+1 => val s p n+bitAt s (p+n)*2 ^ n
theorem bitAt_lt (s:ByteArray) (p:Nat):bitAt s p < 2:=Nat.mod_lt _ (by omega)
theorem byt_lt (s:ByteArray) (i:Nat):byt s i < 256:=UInt8.toNat_lt _
theorem val_lt (s:ByteArray) (p n:Nat):val s p n < 2 ^ n:=by
 induction n with
 | zero => simp [val]
 | succ n ih =>
  have hb:=bitAt_lt s (p+n)
  have:bitAt s (p+n)*2 ^ n<=1*2 ^ n:=Nat.mul_le_mul_right _ (by omega)
  simp only [val,Nat.pow_succ]
  omega
theorem ret_int {k:IntKind} {a b:Int} (h:a=b):Ending.returned (.int k a) = .returned (.int k b):=by rw [h]
def bys (t:List UInt8):List Value:=t.map fun b => Value.int .u8 b.toNat
structure Kp (X:TypeId) (B:Nat) (w w':World):Prop where
 below:Below B w w'
 other:∀ (k:Nat) (cs:Array Value) (T:TypeId) (fr:Nat × Nat),w.heap[k]? = some (.cells cs T fr)->T ≠ X->T ≠ 5->w'.heap[k]? = w.heap[k]?
theorem Kp.refl (X:TypeId) (B:Nat) (w:World):Kp X B w w:=⟨Below.refl _ _,fun _ _ _ _ _ _ _ => rfl⟩
theorem Kp.trans {X:TypeId} {B:Nat} {a b c:World} (h:Kp X B a b) (k:Kp X B b c):Kp X B a c :=
 ⟨h.below.trans k.below,fun i cs T fr hi h1 h2 => (k.other i cs T fr ((h.other i cs T fr hi h1 h2).trans hi) h1 h2).trans (h.other i cs T fr hi h1 h2)⟩
theorem Kp.drew {X:TypeId} {B:Nat} {a w:World} (h:Kp X B a w):Kp X B a w.drew:=⟨h.below.drew,h.other⟩
theorem Kp.drewN {X:TypeId} {B:Nat} {a w:World} (h:Kp X B a w) (n:Nat):Kp X B a (w.drewN n):=⟨⟨h.below.os,h.below.tape,h.below.output,h.below.size,h.below.block⟩,h.other⟩
theorem Kp.alloc {X:TypeId} {B:Nat} {a w:World} (h:Kp X B a w) (hB:B<=w.heap.size) (o:Obj):Kp X B a (w.alloc o) :=
 h.trans ⟨(Below.refl _ _).alloc hB o,fun _ _ _ _ hk _ _ => Below.heap_alloc _ _ _ (Array.getElem?_eq_some_iff.1 hk).1⟩
theorem Kp.size {X:TypeId} {B:Nat} {a w:World} (h:Kp X B a w):a.heap.size<=w.heap.size:=h.below.size
theorem Kp.setCell {X:TypeId} {B:Nat} {a w:World} (h:Kp X B a w) {cs:Array Value} {fr:Nat × Nat} (hB:w.heap[B]? = some (.cells cs X fr)) {p:Addr} (hp:p.block=B) (u:Value):Kp X B a (w.setCell p u) :=
 h.trans ⟨(Below.refl _ _).setCell (by omega) u,fun k cs' T fr' hk hT _ => Below.heap_setCell _ _ _ _ (fun e => by
   rw [e,hp,hB] at hk;injection hk with hk;injection hk with _ hk _;exact hT hk.symm)⟩
theorem Kp.setNew {X:TypeId} {B:Nat} {a w:World} (h:Kp X B a w) (hB:B<=a.heap.size) {p:Addr} (hp:a.heap.size<=p.block) (u:Value):Kp X B a (w.setCell p u) :=
 ⟨h.below.setCell (by omega) u,fun k cs T fr hk h1 h2 => by
  have:k < a.heap.size:=(Array.getElem?_eq_some_iff.1 hk).1
  rw [Below.heap_setCell _ _ _ _ (by omega)];exact h.other k cs T fr hk h1 h2⟩
theorem Kp.grown {X:TypeId} {B:Nat} {a w w':World} {v:Value} {n:Nat} {xs:List Value} (h:Kp X B a w) (hg:w.grownBy w' v.ownBlock) (hB:B < w.heap.size) (ho:w.ownsRow (B+1) 5 1 v n xs):Kp X B a w':=by
 refine h.trans ⟨(Below.refl _ _).grown hg (by omega) ?_,fun k cs T fr hk _ h5 => hg.block k (Array.getElem?_eq_some_iff.1 hk).1 ?_⟩
 ·intro k hk
  rcases ho with ⟨_,⟨rfl,_⟩ | ⟨g,cap,cur,rfl,hg',_,_⟩⟩
  ·simp [Value.ownBlock] at hk
  ·simp [Value.ownBlock] at hk;omega
 ·intro e
  rcases ho with ⟨_,⟨rfl,_⟩ | ⟨g,cap,cur,rfl,_,hh,_⟩⟩
  ·simp [Value.ownBlock] at e
  ·simp [Value.ownBlock] at e
   subst e
   rw [hh] at hk;injection hk with hk;injection hk with _ hk _;exact h5 hk.symm
structure Rd (w:World) (B:Nat) (s:ByteArray) (p:Nat) (tv:Value) (t:List UInt8) (M:Int) (fx:Option Addr):Prop where
 blk:w.heap[B]? = some (.cells #[.string s,.int .i64 ((p / 8:Nat):Int),.int .i64 ((p % 8:Nat):Int),tv,.int .i64 M,.pointer fx] 90 (0,0))
 own:w.ownsRow (B+1) 5 1 tv t.length (bys t)
 sml:s.size<=16777216
 fit:p<=8*s.size
 len:(t.length:Int)<=M
 rom:t.length<=258*p
abbrev gone (e:Int):Ending:=.panicked [{ v:=.iface 92 (.agg #[.int .i64 e]),recovered:=false }]
set_option maxHeartbeats 400000 in
theorem give_any (e:Int) (w:World):Calls Tryz.prog 82 #[.int .i64 e] w fun r w' => r=gone e /\ w=w':=by
 go_enter Tryz.func82,Tryz.ntmps82
 go_wp2
 exact ⟨rfl,rfl,rfl⟩
theorem Rd.lt {w:World} {B:Nat} {s:ByteArray} {p:Nat} {tv:Value} {t:List UInt8} {M:Int} {fx:Option Addr} (h:Rd w B s p tv t M fx):B < w.heap.size:=(Array.getElem?_eq_some_iff.1 h.blk).1
theorem Rd.cell {w:World} {B:Nat} {s:ByteArray} {p:Nat} {tv:Value} {t:List UInt8} {M:Int} {fx:Option Addr} (h:Rd w B s p tv t M fx) :
  w.cell? ⟨B,0,none⟩=some (.string s) /\ w.cell? ⟨B,1,none⟩=some (.int .i64 ((p / 8:Nat):Int)) /\ w.cell? ⟨B,2,none⟩=some (.int .i64 ((p % 8:Nat):Int)) /\ w.cell? ⟨B,3,none⟩=some tv /\ w.cell? ⟨B,4,none⟩=some (.int .i64 M) /\ w.cell? ⟨B,5,none⟩=some (.pointer fx):=by
 have e:=fun j => cell_of_row w B j _ 90 (0,0) h.blk
 exact ⟨by rw [e];rfl,by rw [e];rfl,by rw [e];rfl,by rw [e];rfl,by rw [e];rfl,by rw [e];rfl⟩
theorem Rd.free {w:World} {B:Nat} {s:ByteArray} {p:Nat} {tv:Value} {t:List UInt8} {M:Int} {fx:Option Addr} (h:Rd w B s p tv t M fx) (j:Nat):w.frozen? ⟨B,j,none⟩=false:=by
 have h':=h.blk
 simp [World.frozen?,h']
theorem wraps_i64 (n:Int) (h₀:0<=n) (h₁:n < 2 ^ 62):IntKind.i64.wrap n=n:=by rw [IntKind.wrap_i64];omega
theorem and_one (x:Int) (h0:0<=x) (h1:x < 4611686018427387904):bits .and .i64 x 1=x % 2:=by
 have h:=bits_mask .i64 62 (by decide) wraps_i64 1 (by decide) x h0 (by omega)
 simpa using h
theorem or_low (n:Nat) (hn:n<=40) (v b:Nat) (hv:v < 2 ^ n) (hb:b < 2):bits .or .i64 (v:Int) ((b:Int)*2 ^ n)=((v+b*2 ^ n:Nat):Int):=by
 have hp:2 ^ n<=2 ^ 40:=Nat.pow_le_pow_right (by omega) hn
 have hq:b*2 ^ n<=1*2 ^ n:=Nat.mul_le_mul_right _ (by omega)
 have e1:(2:Nat) ^ 40=1099511627776:=by decide
 have e2:(2:Nat) ^ 62=4611686018427387904:=by decide
 have h:=(bits_nat .i64 62 (by decide) wraps_i64 v (b*2 ^ n) (by omega) (by omega)).2
 have e3:v ||| b*2 ^ n=v+b*2 ^ n:=by
  rw [Nat.or_comm,Nat.mul_comm,Nat.add_comm,Nat.two_pow_add_eq_or_of_lt hv]
 rw [e3] at h
 have e4:((b*2 ^ n:Nat):Int)=(b:Int)*2 ^ n:=by push_cast;rfl
 rw [e4] at h
 exact h
theorem w64 (n:Int) (h:-9223372036854775808<=n /\ n<=9223372036854775807):wrap64 n=n:=by unfold wrap64;omega
theorem bit_byte (s:ByteArray) (a b p:Nat) (ha:a=p / 8) (hb:b=p % 8) (h:a < s.size):bits BinOp.and IntKind.i64 (wrap64 ↑s[a].toNat / 2 ^ b) 1=(bitAt s p:Int):=by
 have h8:=UInt8.toNat_lt s[a]
 rw [w64 _ (by omega)]
 have e:((s[a].toNat:Int) / 2 ^ b)=((s[a].toNat / 2 ^ b:Nat):Int):=by push_cast;rfl
 rw [e,and_one _ (Int.natCast_nonneg _) (by have:=Nat.div_le_self s[a].toNat (2 ^ b);exact Int.ofNat_lt.2 (by omega:s[a].toNat / 2 ^ b < 4611686018427387904))]
 have e2:byt s a=s[a].toNat:=by
  unfold byt
  rw [List.getD_eq_getElem?_getD,List.getElem?_eq_getElem (by simpa using h)]
  rfl
 unfold bitAt
 rw [<- ha,<- hb,e2]
 push_cast
 rfl
theorem Rd.drewN {w:World} {B:Nat} {s:ByteArray} {p:Nat} {tv:Value} {t:List UInt8} {M:Int} {fx:Option Addr} (h:Rd w B s p tv t M fx) (n:Nat):Rd (w.drewN n) B s p tv t M fx:=⟨h.blk,h.own,h.sml,h.fit,h.len,h.rom⟩
theorem own_set {w:World} {B:Nat} {v:Value} {n:Nat} {xs:List Value} (h:w.ownsRow (B+1) 5 1 v n xs) {a:Addr} (ha:a.block=B) (u:Value):(w.setCell a u).ownsRow (B+1) 5 1 v n xs :=
 ownsRow_setCell_below h (by omega) u
theorem blk_set {w:World} {B:Nat} {cs:Array Value} {T:TypeId} (h:w.heap[B]? = some (.cells cs T (0,0))) (j:Nat) (u:Value):(w.setCell ⟨B,j,none⟩ u).heap[B]? = some (.cells (cs.setIfInBounds j u) T (0,0)):=by
 rw [setCell_eq_setRow w B j cs T (0,0) _ h]
 exact setRow_heap w B cs _ T _ h
theorem Rd.alloc {w:World} {B:Nat} {s:ByteArray} {p:Nat} {tv:Value} {t:List UInt8} {M:Int} {fx:Option Addr} (h:Rd w B s p tv t M fx) (o:Obj):Rd (w.alloc o) B s p tv t M fx:=by
 refine ⟨?_,?_,h.sml,h.fit,h.len,h.rom⟩
 ·rw [Below.heap_alloc _ _ _ h.lt];exact h.blk
 ·obtain ⟨h1,h2⟩:=h.own
  refine ⟨h1,?_⟩
  rcases h2 with h2 | ⟨g,cap,cur,hv,hg,hh,r⟩
  ·exact Or.inl h2
  ·exact Or.inr ⟨g,cap,cur,hv,hg,by rw [Below.heap_alloc _ _ _ (Array.getElem?_eq_some_iff.1 hh).1];exact hh,r⟩
theorem Rd.drew {w:World} {B:Nat} {s:ByteArray} {p:Nat} {tv:Value} {t:List UInt8} {M:Int} {fx:Option Addr} (h:Rd w B s p tv t M fx):Rd w.drew B s p tv t M fx:=⟨h.blk,h.own,h.sml,h.fit,h.len,h.rom⟩
theorem Kp.cells {X:TypeId} {B:Nat} {w w':World} (h:Kp X B w w') {g T:Nat} {cs:Array Value} {fr:Nat × Nat} (hg:w.heap[g]? = some (.cells cs T fr)) (h1:T ≠ X) (h2:T ≠ 5):w'.heap[g]? = some (.cells cs T fr) :=
 (h.other g cs T fr hg h1 h2).trans hg
set_option maxHeartbeats 800000 in
theorem next_ok (w:World) (B:Nat) (s:ByteArray) (p:Nat) (tv:Value) (t:List UInt8) (M:Int) (fx:Option Addr) (h:Rd w B s p tv t M fx) (hp:p < 8*s.size) :
  Calls Tryz.prog 77 #[.pointer (some ⟨B,0,none⟩)] w fun e w' => e = .returned (.int .i64 (bitAt s p)) /\ Rd w' B s (p+1) tv t M fx /\ Kp 90 B w w':=by
 obtain ⟨c0,c1,c2,-,-,-⟩:=h.cell
 have f1:=h.free 1
 have f2:=h.free 2
 have hs:=h.sml
 obtain ⟨a,ha⟩:∃ a,a=p / 8:=⟨_,rfl⟩
 obtain ⟨b,hb⟩:∃ b,b=p % 8:=⟨_,rfl⟩
 rw [<- ha] at c1
 rw [<- hb] at c2
 have hb8:b < 8:=by omega
 have has:a < s.size:=by omega
 have hne:((a:Int) == (s.size:Int))=false:=beq_eq_false_iff_ne.2 (by omega)
 have HA:Hid (a=p / 8):=ha
 have HB:Hid (b=p % 8):=hb
 clear ha hb
 go_enter Tryz.func77,Tryz.ntmps77
 go_wp2
 go_quiet (fail)
 go_wp2
 go_quiet (fail)
 by_cases h7:7<=b
 ·have h78:((b:Int)+1 == 8)=true:=beq_iff_eq.2 (by omega)
  go_wp2
  go_ret
  refine ⟨ret_int (bit_byte s a b p HA.out HB.out has),⟨?_,?_,h.sml,by omega,h.len,by have:=h.rom;omega⟩,?_⟩
  ·rw [blk_set (blk_set (blk_set (h.drewN _).blk _ _) _ _) _ _]
   have e1:(p+1) / 8=a+1:=by have:=HA.out;have:=HB.out;omega
   have e2:(p+1) % 8=0:=by have:=HB.out;omega
   rw [e1,e2]
   rfl
  ·exact own_set (own_set (own_set (h.drewN _).own rfl _) rfl _) rfl _
  ·exact ((((Kp.refl 90 B w).drewN _).setCell (h.drewN _).blk rfl _).setCell (blk_set (h.drewN _).blk _ _) rfl _).setCell (blk_set (blk_set (h.drewN _).blk _ _) _ _) rfl _
 ·have h78:((b:Int)+1 == 8)=false:=beq_eq_false_iff_ne.2 (by omega)
  go_wp2
  go_ret
  refine ⟨ret_int (bit_byte s a b p HA.out HB.out has),⟨?_,?_,h.sml,by omega,h.len,by have:=h.rom;omega⟩,?_⟩
  ·rw [blk_set (h.drewN _).blk _ _]
   have e1:(p+1) / 8=p / 8:=by have:=HA.out;have:=HB.out;omega
   have e2:(p+1) % 8=b+1:=by have:=HB.out;omega
   rw [e1,e2]
   rfl
  ·exact own_set (h.drewN _).own rfl _
  ·exact ((Kp.refl 90 B w).drewN _).setCell (h.drewN _).blk rfl _
def Gave (B:Nat) (s:ByteArray) (tv:Value) (t:List UInt8) (M:Int) (fx:Option Addr) (err:Nat) (w:World) (e:Ending) (w':World):Prop :=
 e=gone err /\ (∃ p',Rd w' B s p' tv t M fx) /\ Kp 90 B w w'
set_option maxHeartbeats 800000 in
theorem next_no (w:World) (B:Nat) (s:ByteArray) (p:Nat) (tv:Value) (t:List UInt8) (M:Int) (fx:Option Addr) (h:Rd w B s p tv t M fx) (hp:¬ p < 8*s.size) :
  Calls Tryz.prog 77 #[.pointer (some ⟨B,0,none⟩)] w fun e w' => Gave B s tv t M fx 1 w e w':=by
 obtain ⟨c0,c1,c2,-,-,-⟩:=h.cell
 have hs:=h.sml
 have hfit:=h.fit
 obtain ⟨a,ha⟩:∃ a,a=p / 8:=⟨_,rfl⟩
 rw [<- ha] at c1
 have hne:((a:Int) == (s.size:Int))=true:=beq_iff_eq.2 (by omega)
 clear ha
 go_enter Tryz.func77,Tryz.ntmps77
 go_wp2
 go_quiet (fail)
 go_wp2_with (go_at_call 82;refine (give_any _ _).mono ?_;rintro e w' ⟨rfl,rfl⟩)
 exact ⟨rfl,rfl,⟨p,h.drewN _⟩,(Kp.refl 90 B w).drewN _⟩
end Go.Proofs.YthdmjmnkhlpnnabGreatDoor
namespace Go.Proofs.YthdmjmnkhlpnnabGreatDoor
open Go.RowKit
theorem shl_small (n:Nat) (hn:n<=40) (b:Nat) (hb:b < 2):wrap64 ((b:Int)*2 ^ n)=(b:Int)*2 ^ n:=by
 have hp:2 ^ n<=2 ^ 40:=Nat.pow_le_pow_right (by omega) hn
 have hq:b*2 ^ n<=1*2 ^ n:=Nat.mul_le_mul_right _ (by omega)
 have e1:(2:Nat) ^ 40=1099511627776:=by decide
 have e4:((b*2 ^ n:Nat):Int)=(b:Int)*2 ^ n:=by push_cast;rfl
 rw [<- e4]
 exact w64 _ (by omega)
theorem int_eq {a b:Int} (h:a=b):Value.int .i64 a=Value.int .i64 b:=by rw [h]
set_option maxHeartbeats 800000 in
theorem number_ok (w:World) (B:Nat) (s:ByteArray) (p:Nat) (tv:Value) (t:List UInt8) (M:Int) (fx:Option Addr) (h:Rd w B s p tv t M fx) (n:Nat) (hn:n<=40) (hp:p+n<=8*s.size) :
  Calls Tryz.prog 43 #[.pointer (some ⟨B,0,none⟩),.int .i64 n] w fun e w' => e = .returned (.int .i64 (val s p n)) /\ Rd w' B s (p+n) tv t M fx /\ Kp 90 B w w':=by
 have HR:Hid (Rd w B s p tv t M fx):=h
 clear h
 go_enter Tryz.func43,Tryz.ntmps43
 go_wp2
 go_loopw [5,8] (fun v i wr => ∃ k:Nat,k<=n /\ i = .int .i64 k /\ v = .int .i64 (val s p k) /\ Hid (Rd wr B s (p+k) tv t M fx) /\ Kp 90 B w wr) (fun _ i _ => n - (intOf i).toNat)
 case atStart => exact ⟨0,by omega,rfl,rfl,HR,Kp.refl _ _ _⟩
 case round =>
  obtain ⟨k,hk,rfl,rfl,hr,hK⟩:=hrel
  by_cases hlt:k < n
  ·have hv:=val_lt s p k
   obtain ⟨v,hvv⟩:∃ v,v=val s p k:=⟨_,rfl⟩
   obtain ⟨b,hb⟩:∃ b,b=bitAt s (p+k):=⟨_,rfl⟩
   have hb2:b < 2:=by rw [hb];exact bitAt_lt _ _
   have HV:Hid (bits .or .i64 (v:Int) (wrap64 ((b:Int)*2 ^ k))=(val s p (k+1):Int)):=by
    show _=_
    rw [shl_small k (by omega) b hb2,or_low k (by omega) v b (by rw [hvv];exact hv) hb2,hvv,hb]
    rfl
   rw [<- hvv]
   have HB:Hid (b=bitAt s (p+k)):=hb
   clear hv hvv hb
   go_wp2_with (go_at_call 77;refine (next_ok _ _ _ _ _ _ _ _ hr.out (by omega)).mono ?_;rintro e w' ⟨rfl,hr1,hk1⟩;rw [<- HB.out])
   exact ⟨⟨k+1,by omega,by go_num,int_eq HV.out,hr1,hK.trans hk1⟩,by simp [intOf];omega⟩
  ·obtain rfl:k=n:=by omega
   go_wp2
   go_ret
   exact ⟨rfl,hr.out,hK⟩
set_option maxHeartbeats 800000 in
theorem number_no (w:World) (B:Nat) (s:ByteArray) (p:Nat) (tv:Value) (t:List UInt8) (M:Int) (fx:Option Addr) (h:Rd w B s p tv t M fx) (n:Nat) (hn:n<=40) (hp:¬ p+n<=8*s.size) :
  Calls Tryz.prog 43 #[.pointer (some ⟨B,0,none⟩),.int .i64 n] w fun e w' => Gave B s tv t M fx 1 w e w':=by
 have HR:Hid (Rd w B s p tv t M fx):=h
 have hfit:=h.fit
 clear h
 go_enter Tryz.func43,Tryz.ntmps43
 go_wp2
 go_loopw [5,8] (fun v i wr => ∃ (k:Nat) (q:Int),k<=n /\ p+k<=8*s.size /\ i = .int .i64 k /\ v = .int .i64 q /\ Hid (Rd wr B s (p+k) tv t M fx) /\ Kp 90 B w wr) (fun _ i _ => n - (intOf i).toNat)
 case atStart => exact ⟨0,0,by omega,by omega,rfl,rfl,HR,Kp.refl _ _ _⟩
 case round =>
  obtain ⟨k,q,hk,hkp,rfl,rfl,hr,hK⟩:=hrel
  have hlt:k < n:=by omega
  by_cases hb:p+k < 8*s.size
  ·go_wp2_with (go_at_call 77;refine (next_ok _ _ _ _ _ _ _ _ hr.out hb).mono ?_;rintro e w' ⟨rfl,hr1,hk1⟩)
   exact ⟨⟨k+1,_,by omega,by omega,by go_num,rfl,hr1,hK.trans hk1⟩,by simp [intOf];omega⟩
  ·go_wp2_with (go_at_call 77;refine (next_no _ _ _ _ _ _ _ _ hr.out hb).mono ?_;rintro e w' ⟨rfl,hr1,hk1⟩)
   exact ⟨rfl,rfl,hr1,hK.trans hk1⟩
set_option maxHeartbeats 800000 in
theorem within_ok (w:World) (B:Nat) (s:ByteArray) (p:Nat) (tv:Value) (t:List UInt8) (M:Int) (fx:Option Addr) (h:Rd w B s p tv t M fx) (l n:Nat) (hl:l<=100000) (hn:n<=16) (hp:p+n<=8*s.size) :
  Calls Tryz.prog 128 #[.pointer (some ⟨B,0,none⟩),.agg #[.int .i64 l,.int .i64 n]] w fun e w' => e = .returned (.int .i64 ((l+val s p n:Nat):Int)) /\ Rd w' B s (p+n) tv t M fx /\ Kp 90 B w w':=by
 have hr:=h.alloc (.cells #[.int .i64 l,.int .i64 n] 165)
 have hk0:=(Kp.refl 90 B w).alloc (Nat.le_of_lt h.lt) (.cells #[.int .i64 l,.int .i64 n] 165)
 have hnew:(w.alloc (.cells #[.int .i64 l,.int .i64 n] 165)).heap[w.heap.size]? = some (.cells #[.int .i64 l,.int .i64 n] 165 (0,0)):=heap_alloc_new w _
 have hv:=val_lt s p n
 have hv2:2 ^ n<=2 ^ 16:=Nat.pow_le_pow_right (by omega) hn
 have hv3:(2:Nat) ^ 16=65536:=by decide
 have hvv:val s p n<=65536:=by omega
 have HR:=hid hr
 have HN:=hid hnew
 clear hv hv2 hv3 hr hnew
 go_enter Tryz.func128,Tryz.ntmps128
 go_wp2_with fail
 go_region_with ((go_at_call 43;refine (number_ok _ _ _ _ _ _ _ _ (by first | exact HR.out.drew | exact HR.out) n (by omega) hp).mono ?_;rintro e w' ⟨rfl,hr1,hk1⟩;have m0:w'.cell? ⟨w.heap.size,0,none⟩=some (.int .i64 l):=(cell_of_row w' w.heap.size 0 _ 165 (0,0) (hk1.cells HN.out (by decide) (by decide)))))
 all_goals go_wp2
 all_goals go_ret
 all_goals
  show Ending.returned (.int .i64 (IntKind.i64.wrap ((l:Int)+(val s p n:Int))))=_ /\ _
  exact ⟨ret_int (by rw [IntKind.wrap_i64];omega),hr1,hk0.drew.trans hk1⟩
set_option maxHeartbeats 800000 in
theorem within_no (w:World) (B:Nat) (s:ByteArray) (p:Nat) (tv:Value) (t:List UInt8) (M:Int) (fx:Option Addr) (h:Rd w B s p tv t M fx) (l n:Nat) (hn:n<=16) (hp:¬ p+n<=8*s.size) :
  Calls Tryz.prog 128 #[.pointer (some ⟨B,0,none⟩),.agg #[.int .i64 l,.int .i64 n]] w fun e w' => Gave B s tv t M fx 1 w e w':=by
 have hr:=h.alloc (.cells #[.int .i64 l,.int .i64 n] 165)
 have hk0:=(Kp.refl 90 B w).alloc (Nat.le_of_lt h.lt) (.cells #[.int .i64 l,.int .i64 n] 165)
 have HR:=hid hr
 clear hr
 go_enter Tryz.func128,Tryz.ntmps128
 go_wp2_with fail
 go_region_dies
 all_goals (try (go_at_call 43;refine (number_no _ _ _ _ _ _ _ _ (by first | exact HR.out.drew | exact HR.out) n (by omega) hp).mono ?_;rintro e w' ⟨rfl,hr1,hk1⟩))
 all_goals exact ⟨rfl,rfl,hr1,hk0.drew.trans hk1⟩
set_option maxHeartbeats 800000 in
theorem endByte_any (w:World) (B:Nat) (s:ByteArray) (p:Nat) (tv:Value) (t:List UInt8) (M:Int) (fx:Option Addr) (h:Rd w B s p tv t M fx) :
  Calls Tryz.prog 123 #[.pointer (some ⟨B,0,none⟩)] w fun e w' => e = .returned (.tuple #[]) /\ Rd w' B s ((p+7) / 8*8) tv t M fx /\ Kp 90 B w w':=by
 obtain ⟨-,c1,c2,-,-,-⟩:=h.cell
 have f1:=h.free 1
 have f2:=h.free 2
 have hs:=h.sml
 have hfit:=h.fit
 obtain ⟨a,ha⟩:∃ a,a=p / 8:=⟨_,rfl⟩
 obtain ⟨b,hb⟩:∃ b,b=p % 8:=⟨_,rfl⟩
 rw [<- ha] at c1
 rw [<- hb] at c2
 have hb8:b < 8:=by omega
 have has:a<=s.size:=by omega
 have HA:Hid (a=p / 8):=ha
 have HB:Hid (b=p % 8):=hb
 clear ha hb
 by_cases h0:0 < b
 ·go_enter Tryz.func123,Tryz.ntmps123
  go_wp2
  go_end0
  have h1:=HA.out
  have h2:=HB.out
  refine ⟨rfl,⟨?_,own_set (own_set h.own rfl _) rfl _,h.sml,by omega,h.len,by have:=h.rom;omega⟩,((Kp.refl 90 B w).setCell h.blk rfl _).setCell (blk_set h.blk _ _) rfl _⟩
  rw [blk_set (blk_set h.blk _ _) _ _]
  have e1:(p+7) / 8*8 / 8=a+1:=by omega
  have e2:(p+7) / 8*8 % 8=0:=by omega
  rw [e1,e2]
  rfl
 ·go_enter Tryz.func123,Tryz.ntmps123
  go_wp2
  go_end0
  have h1:=HA.out
  have h2:=HB.out
  rw [show (p+7) / 8*8=p by omega]
  exact ⟨rfl,h,Kp.refl _ _ _⟩
theorem byt_get (s:ByteArray) (a:Nat) (h:a < s.size):byt s a=s[a].toNat:=by
 unfold byt
 rw [List.getD_eq_getElem?_getD,List.getElem?_eq_getElem (by simpa using h)]
 rfl
def byu (s:ByteArray) (i:Nat):UInt8:=s.data.toList.getD i 0
set_option maxHeartbeats 800000 in
theorem nextByte_ok (w:World) (B:Nat) (s:ByteArray) (a:Nat) (tv:Value) (t:List UInt8) (M:Int) (fx:Option Addr) (h:Rd w B s (8*a) tv t M fx) (hp:a < s.size) :
  Calls Tryz.prog 125 #[.pointer (some ⟨B,0,none⟩)] w fun e w' => e = .returned (.int .u8 (byu s a).toNat) /\ Rd w' B s (8*(a+1)) tv t M fx /\ Kp 90 B w w':=by
 obtain ⟨c0,c1,-,-,-,-⟩:=h.cell
 have f1:=h.free 1
 have hs:=h.sml
 rw [show 8*a / 8=a by omega] at c1
 have hne:((a:Int) == (s.size:Int))=false:=beq_eq_false_iff_ne.2 (by omega)
 have b1:(0:Int)<=(a:Int)+1 - 1:=by omega
 have b2:(a:Int)+1 - 1 < (s.size:Int):=by omega
 have e3:((a:Int)+1 - 1).toNat=a:=by omega
 go_enter Tryz.func125,Tryz.ntmps125
 go_wp2
 go_quiet (fail)
 go_wp2
 go_quiet (fail)
 go_wp2
 go_ret
 refine ⟨ret_int ?_,⟨?_,own_set (h.drewN _).own rfl _,h.sml,by omega,h.len,by have:=h.rom;omega⟩,((((Kp.refl 90 B w).drewN _).setCell (h.drewN _).blk rfl _).drewN _)⟩
 ·show ((s[a].toNat:Nat):Int)=_
  rw [<- byt_get s a hp]
  rfl
 ·refine (blk_set (h.drewN _).blk _ _).trans ?_
  rw [show 8*(a+1) / 8=a+1 by omega,show 8*(a+1) % 8=8*a % 8 by omega]
  rfl
set_option maxHeartbeats 800000 in
theorem nextByte_no (w:World) (B:Nat) (s:ByteArray) (a:Nat) (tv:Value) (t:List UInt8) (M:Int) (fx:Option Addr) (h:Rd w B s (8*a) tv t M fx) (hp:¬ a < s.size) :
  Calls Tryz.prog 125 #[.pointer (some ⟨B,0,none⟩)] w fun e w' => Gave B s tv t M fx 1 w e w':=by
 obtain ⟨c0,c1,-,-,-,-⟩:=h.cell
 have hs:=h.sml
 have hfit:=h.fit
 rw [show 8*a / 8=a by omega] at c1
 have hne:((a:Int) == (s.size:Int))=true:=beq_iff_eq.2 (by omega)
 go_enter Tryz.func125,Tryz.ntmps125
 go_wp2
 go_quiet (fail)
 go_wp2_with (go_at_call 82;refine (give_any _ _).mono ?_;rintro e w' ⟨rfl,rfl⟩)
 exact ⟨rfl,rfl,⟨_,h.drewN _⟩,(Kp.refl 90 B w).drewN _⟩
end Go.Proofs.YthdmjmnkhlpnnabGreatDoor
namespace Go.Proofs.YthdmjmnkhlpnnabGreatDoor
open Go.RowKit
theorem info_parts {P:Program} {e:TypeId} {z:Value} {n b:Nat} (h:(P.info? e).map (fun i => (i.zero,i.size,i.bytes))=some (some z,n,b)):∃ i,P.info? e=some i /\ i.zero=some z /\ i.size=n /\ i.bytes=b:=by
 cases hi:P.info? e with
 | none => rw [hi] at h;simp at h
 | some i => rw [hi] at h;simp at h;exact ⟨i,rfl,h.1,h.2.1,h.2.2⟩
theorem info5:(Tryz.prog.info? 5).map (fun i => (i.zero,i.size,i.bytes))=some (some (.int .u8 0),1,1):=by kernel_rfl
theorem bys_snoc (t:List UInt8) (b:UInt8):bys (t ++ [b])=bys t ++ [.int .u8 b.toNat]:=by simp [bys]
set_option maxRecDepth 20000 in
set_option maxHeartbeats 800000 in
theorem add_ok (w:World) (B:Nat) (s:ByteArray) (p:Nat) (tv:Value) (t:List UInt8) (M:Int) (fx:Option Addr) (b:UInt8) (h:Rd w B s p tv t M fx) (hp:(t.length:Int) < M) (hrm:t.length+1<=258*p) :
  Calls Tryz.prog 124 #[.pointer (some ⟨B,0,none⟩),.int .u8 b.toNat] w fun e w' => e = .returned (.tuple #[]) /\ (∃ tv',Rd w' B s p tv' (t ++ [b]) M fx) /\ Kp 90 B w w':=by
 obtain ⟨-,-,-,c3,c4,-⟩:=h.cell
 have f3:=h.free 3
 have ht:t.length<=68719476736:=by have:=h.rom;have:=h.fit;have:=h.sml;omega
 have hne:((t.length:Int) == M)=false:=beq_eq_false_iff_ne.2 (by omega)
 have hB:=h.lt
 have HR:=hid h
 obtain ⟨i0,hi,hz0,hz1,hz2⟩:=info_parts info5
 obtain ⟨ao,c,hsh⟩:∃ ao c,tv = .slice ao t.length c:=by
  obtain ⟨_,⟨rfl,h0⟩ | ⟨g,cap,cur,rfl,_⟩⟩:=h.own
  ·exact ⟨none,0,by rw [h0]⟩
  ·exact ⟨_,_,rfl⟩
 subst hsh
 clear h
 go_enter Tryz.func124,Tryz.ntmps124
 go_wp2
 go_quiet (fail)
 go_wp2_with (at_builtin;refine wpList_append_lies _ rfl (.tmp 19) (.tmp 21) 72 rfl (B+1) 5 i0 (.int .u8 0) 1 1 Tryz.underlying72 hi hz0 hz1 hz2 rfl (by decide) (.slice ao t.length c) t.length (bys t) rfl ((HR.out.drewN _).alloc _).own ⟨w.heap.size,0,none⟩ 1 1 [.int .u8 b.toNat] rfl rfl (cell_one_new _ _ _) ?c2 (by decide) ?c3 ?c4 ?c5 _ rfl ?_)
 case c2 => intro u hu;simp at hu;subst hu;rfl
 case c3 => unfold maxLen;omega
 case c4 => omega
 case c5 => simp;omega
 intro g cap w1 hown hgrow hat hlt
 have hK1:Kp 90 B w w1:=(((Kp.refl 90 B w).drewN nq).alloc (by simp;omega) _).grown hgrow (by simp;omega) ((HR.out.drewN nq).alloc _).own
 have hblk:w1.heap[B]? = some (.cells #[.string s,.int .i64 ((p / 8:Nat):Int),.int .i64 ((p % 8:Nat):Int),.slice ao t.length c,.int .i64 M,.pointer fx] 90 (0,0)):=by
  refine (hgrow.block B (by simp;omega) ?_).trans ((HR.out.drewN nq).alloc _).blk
  intro e
  have:=((HR.out.drewN nq).alloc (.cells #[.int .u8 b.toNat] 5)).own.lt B e.symm
  omega
 have c3':w1.cell? ⟨B,3,none⟩=some (.slice ao t.length c):=by rw [cell_of_row w1 B 3 _ 90 (0,0) hblk];rfl
 have f3':w1.frozen? ⟨B,3,none⟩=false:=by simp [World.frozen?,hblk]
 clear hgrow hat hlt c3 c4 f3 hi hz0 hz1 hz2
 have HB1:=hid hblk
 clear hblk
 go_wp2
 go_end0
 refine ⟨rfl,⟨.slice (some ⟨g,0,none⟩) (t.length+1) cap,⟨?_,?_,HR.out.sml,HR.out.fit,by simp;omega,by simp;exact hrm⟩⟩,hK1.setCell HB1.out rfl _⟩
 ·rw [blk_set HB1.out]
  rfl
 ·rw [bys_snoc,List.length_append]
  exact own_set hown rfl _
set_option maxRecDepth 20000 in
set_option maxHeartbeats 800000 in
theorem add_no (w:World) (B:Nat) (s:ByteArray) (p:Nat) (tv:Value) (t:List UInt8) (M:Int) (fx:Option Addr) (b:UInt8) (h:Rd w B s p tv t M fx) (hp:(t.length:Int)=M) :
  Calls Tryz.prog 124 #[.pointer (some ⟨B,0,none⟩),.int .u8 b.toNat] w fun e w' => Gave B s tv t M fx 6 w e w':=by
 obtain ⟨-,-,-,c3,c4,-⟩:=h.cell
 have hne:((t.length:Int) == M)=true:=beq_iff_eq.2 hp
 have HR:=hid h
 obtain ⟨ao,c,hsh⟩:∃ ao c,tv = .slice ao t.length c:=by
  obtain ⟨_,⟨rfl,h0⟩ | ⟨g,cap,cur,rfl,_⟩⟩:=h.own
  ·exact ⟨none,0,by rw [h0]⟩
  ·exact ⟨_,_,rfl⟩
 subst hsh
 clear h hp
 go_enter Tryz.func124,Tryz.ntmps124
 go_wp2
 go_quiet (fail)
 go_wp2_with (go_at_call 82;refine (give_any _ _).mono ?_;rintro e w' ⟨rfl,rfl⟩)
 exact ⟨rfl,rfl,⟨_,HR.out.drewN _⟩,(Kp.refl 90 B w).drewN _⟩
end Go.Proofs.YthdmjmnkhlpnnabGreatDoor
