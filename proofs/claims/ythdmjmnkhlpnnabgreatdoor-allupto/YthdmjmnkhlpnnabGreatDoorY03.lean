import Derived.Test.YthdmjmnkhlpnnabGreatDoorZ06
import Derived.Test.YthdmjmnkhlpnnabGreatDoorZ05
import Derived.Test.YthdmjmnkhlpnnabGreatDoorZ04
namespace Go.Proofs.YthdmjmnkhlpnnabGreatDoor
open Go.RowKit
structure Rf (w:World) (B:Nat) (s:ByteArray) (p:Nat) (tv:Value) (t:List UInt8) (M:Int) (E:Nat):Prop where
 blk:∃ far:Int,w.heap[B]? = some (.cells #[.string s,.int .i64 (p:Int),tv,.int .i64 M,.int .i64 (E:Int),.int .i64 far] 143 (0,0))
 own:w.ownsRow (B+1) 5 1 tv t.length (bys t)
 sml:s.size<=16777216
 fit:p<=8*s.size
 len:(t.length:Int)<=M
 rom:t.length<=258*p
variable {w w':World} {B:Nat} {s:ByteArray} {p:Nat} {tv:Value} {t:List UInt8} {M:Int} {E:Nat}
theorem Rf.lt (h:Rf w B s p tv t M E):B < w.heap.size:=by
 obtain ⟨far,hb⟩:=h.blk
 exact (Array.getElem?_eq_some_iff.1 hb).1
theorem Rf.cell (h:Rf w B s p tv t M E) :
  w.cell? ⟨B,0,none⟩=some (.string s) /\ w.cell? ⟨B,1,none⟩=some (.int .i64 (p:Int)) /\ w.cell? ⟨B,2,none⟩=some tv /\ w.cell? ⟨B,3,none⟩=some (.int .i64 M) /\ w.cell? ⟨B,4,none⟩=some (.int .i64 (E:Int)) /\ ∃ far,w.cell? ⟨B,5,none⟩=some (.int .i64 far):=by
 obtain ⟨far,hb⟩:=h.blk
 have e:=fun j => cell_of_row w B j _ 143 (0,0) hb
 exact ⟨by rw [e];rfl,by rw [e];rfl,by rw [e];rfl,by rw [e];rfl,by rw [e];rfl,far,by rw [e];rfl⟩
theorem Rf.free (h:Rf w B s p tv t M E) (j:Nat):w.frozen? ⟨B,j,none⟩=false:=by
 obtain ⟨far,hb⟩:=h.blk
 simp [World.frozen?,hb]
theorem Rf.drewN (h:Rf w B s p tv t M E) (n:Nat):Rf (w.drewN n) B s p tv t M E:=⟨h.blk,h.own,h.sml,h.fit,h.len,h.rom⟩
theorem Rf.drew (h:Rf w B s p tv t M E):Rf w.drew B s p tv t M E:=⟨h.blk,h.own,h.sml,h.fit,h.len,h.rom⟩
theorem Rf.below (h:Rf w B s p tv t M E) (hb:Below w.heap.size w w'):Rf w' B s p tv t M E:=by
 obtain ⟨far,hbk⟩:=h.blk
 refine ⟨⟨far,(hb.block B h.lt).trans hbk⟩,?_,h.sml,h.fit,h.len,h.rom⟩
 obtain ⟨h1,h2⟩:=h.own
 refine ⟨h1,?_⟩
 rcases h2 with h2 | ⟨g,cap,cur,hv,hg,hh,r⟩
 ·exact Or.inl h2
 ·exact Or.inr ⟨g,cap,cur,hv,hg,(hb.block g (Array.getElem?_eq_some_iff.1 hh).1).trans hh,r⟩
theorem Rf.alloc (h:Rf w B s p tv t M E) (o:Obj):Rf (w.alloc o) B s p tv t M E:=h.below ((Below.refl _ _).alloc (Nat.le_refl _) o)
theorem Rf.shape (h:Rf w B s p tv t M E):∃ ao c,tv = .slice ao t.length c:=by
 obtain ⟨_,⟨rfl,h0⟩ | ⟨g,cap,cur,rfl,_⟩⟩:=h.own
 ·exact ⟨none,0,by rw [h0]⟩
 ·exact ⟨_,_,rfl⟩
theorem Rf.byte (h:Rf w B s p tv t M E) (i:Nat) (hi:i < t.length) :
  ∃ g c,tv = .slice (some ⟨g,0,none⟩) t.length c /\ w.cell? ⟨g,i,none⟩=some (.int .u8 (t.getD i 0).toNat):=by
 obtain ⟨_,⟨rfl,h0⟩ | ⟨g,cap,cur,rfl,hg,hh,h1,h2,h3,h4⟩⟩:=h.own
 ·omega
 ·refine ⟨g,cap,rfl,?_⟩
  rw [cell_of_row w g i cur 5 (0,0) hh]
  have e:cur.toList[i]? = (bys t)[i]?:=by rw [<- h4,List.getElem?_take,if_pos (by omega)]
  rw [<- Array.getElem?_toList,e]
  simp [bys,hi]
def posR (w:World) (B:Nat):Nat:=(intOf ((w.cell? ⟨B,1,none⟩).getD (.int .i64 0))).toNat
theorem Rf.pos (h:Rf w B s p tv t M E):posR w B=p:=by
 obtain ⟨-,c1,-⟩:=h.cell
 unfold posR
 rw [c1]
 simp [intOf]
theorem Rf.setE (h:Rf w B s p tv t M E) (e:Nat):Rf (w.setCell ⟨B,4,none⟩ (.int .i64 (e:Int))) B s p tv t M e:=by
 obtain ⟨far,hb⟩:=h.blk
 exact ⟨⟨far,by rw [blk_set hb];rfl⟩,own_set h.own rfl _,h.sml,h.fit,h.len,h.rom⟩
theorem Rf.setAt (h:Rf w B s p tv t M E) (q:Nat) (hq:p<=q) (hf:q<=8*s.size):Rf (w.setCell ⟨B,1,none⟩ (.int .i64 (q:Int))) B s q tv t M E:=by
 obtain ⟨far,hb⟩:=h.blk
 exact ⟨⟨far,by rw [blk_set hb];rfl⟩,own_set h.own rfl _,h.sml,hf,h.len,by have:=h.rom;omega⟩
theorem Rf.setFar (h:Rf w B s p tv t M E) (f:Int):Rf (w.setCell ⟨B,5,none⟩ (.int .i64 f)) B s p tv t M E:=by
 obtain ⟨far,hb⟩:=h.blk
 exact ⟨⟨f,by rw [blk_set hb];rfl⟩,own_set h.own rfl _,h.sml,h.fit,h.len,h.rom⟩
theorem Kp.setRf {a:World} (hk:Kp 143 B a w) (h:Rf w B s p tv t M E) (j:Nat) (u:Value):Kp 143 B a (w.setCell ⟨B,j,none⟩ u):=by
 obtain ⟨far,hb⟩:=h.blk
 exact hk.setCell hb rfl u
set_option maxHeartbeats 400000 in
theorem stop_any (w:World) (B:Nat) (s:ByteArray) (p:Nat) (tv:Value) (t:List UInt8) (M:Int) (e:Nat) (h:Rf w B s p tv t M 0) :
  Calls Tryz.prog 89 #[.pointer (some ⟨B,0,none⟩),.int .i64 e] w fun r w' => r = .returned (.tuple #[]) /\ Rf w' B s p tv t M e /\ Kp 143 B w w':=by
 obtain ⟨-,-,-,-,c4,-⟩:=h.cell
 have f4:=h.free 4
 have HR:=hid h
 clear h
 go_enter Tryz.func89,Tryz.ntmps89
 go_wp2
 go_end0
 exact ⟨rfl,HR.out.setE e,(Kp.refl _ _ _).setRf HR.out _ _⟩
theorem bit_ref (s:ByteArray) (p:Nat) (x:Nat) (hx:x=p / 8) (h:x < s.size):(s[x].toNat:Int) / (2 ^ (p % 8):Nat) % 2=(bitAt s p:Int):=by
 unfold bitAt
 rw [<- hx,byt_get s x h]
 push_cast
 rfl
set_option maxHeartbeats 800000 in
theorem rbit_ok (w:World) (B:Nat) (s:ByteArray) (p:Nat) (tv:Value) (t:List UInt8) (M:Int) (h:Rf w B s p tv t M 0) (hp:p < 8*s.size) :
  Calls Tryz.prog 83 #[.pointer (some ⟨B,0,none⟩)] w fun e w' => e = .returned (.int .i64 (bitAt s p)) /\ Rf w' B s (p+1) tv t M 0 /\ Kp 143 B w w':=by
 obtain ⟨c0,c1,-,-,c4,-⟩:=h.cell
 have f1:=h.free 1
 have HR:=hid h
 have hs:=h.sml
 clear h
 obtain ⟨x,hx⟩:∃ x,x=p / 8:=⟨_,rfl⟩
 have hxs:x < s.size:=by omega
 obtain ⟨y,hy⟩:∃ y,y=p % 8:=⟨_,rfl⟩
 have q1:(p:Int) / 8=(x:Int):=by omega
 have q2:(p:Int) % 8=(y:Int):=by omega
 have hpw:=pow_le15 y (by omega)
 obtain ⟨P,hP⟩:∃ P:Nat,P=2 ^ y:=⟨_,rfl⟩
 have hP1:1<=P:=by omega
 have hP0:¬ (P:Int)=0:=by omega
 have HB:Hid ((s[x].toNat:Int) / (P:Int) % 2=(bitAt s p:Int)):=by
  show _=_
  rw [hP,hy]
  exact bit_ref s p x hx hxs
 have HPW:Hid (∀ u:World,Calls Tryz.prog 96 #[.int .i64 (y:Int)] u fun e w' => e = .returned (.int .i64 (P:Int)) /\ w'=u):=fun u => (power_any (y:Int) u (by omega) (by omega)).mono fun e w' ⟨h1,h2⟩ => ⟨by rw [h1,hP];simp,h2.symm⟩
 have hby:=UInt8.toNat_lt s[x]
 have hdl:(s[x].toNat:Int) / (P:Int)<=(s[x].toNat:Int):=Int.ediv_le_self _ (by omega)
 have hd0:0<=(s[x].toNat:Int) / (P:Int):=Int.ediv_nonneg (by omega) (by omega)
 have wx:IntKind.i64.wrap (x:Int)=x:=by rw [IntKind.wrap_i64];omega
 have wb:IntKind.i64.wrap (s[x].toNat:Int)=(s[x].toNat:Int):=by rw [IntKind.wrap_i64];omega
 have wq:IntKind.i64.wrap ((s[x].toNat:Int) / (P:Int))=(s[x].toNat:Int) / (P:Int):=by rw [IntKind.wrap_i64];omega
 have q3:(p:Int).tmod 8=(y:Int):=by rw [Int.tmod_eq_emod_of_nonneg (by omega)];omega
 obtain ⟨d,hd⟩:∃ d:Nat,d=bitAt s p:=⟨_,rfl⟩
 have td:(s[x].toNat:Int).tdiv (P:Int)=(s[x].toNat:Int) / (P:Int):=Int.tdiv_eq_ediv_of_nonneg (by omega)
 have tm:((s[x].toNat:Int) / (P:Int)).tmod 2=(d:Int):=by rw [Int.tmod_eq_emod_of_nonneg hd0,HB.out,hd]
 have tm2:((s[x].toNat:Int) / (P:Int)) % 2=(d:Int):=by rw [HB.out,hd]
 have HD:=hid hd
 rw [<- hd]
 clear hx hy hpw hP hd
 go_enter Tryz.func83,Tryz.ntmps83
 go_wp2
 go_quiet (fail)
 go_wp2
 have HK:Hid (Kp 143 B w (w.drewN nq)):=(Kp.refl _ _ _).drewN _
 have HRW:=HR.out.drewN nq
 clear c0 c1 c4 f1
 generalize w.drewN nq=W at HRW HK ⊢
 obtain ⟨c0,c1,-,-,c4,-⟩:=HRW.cell
 have f1:=HRW.free 1
 have HW:=hid HRW
 clear HRW HR
 go_quiet ((go_at_call 96;refine Calls.quiet_of_same (HPW.out _)))
 go_wp2
 go_ret
 exact ⟨rfl,(HW.out.drewN _).setAt (p+1) (by omega) (by omega),(HK.out.drewN _).setRf (HW.out.drewN _) _ _⟩
end Go.Proofs.YthdmjmnkhlpnnabGreatDoor
namespace Go.Proofs.YthdmjmnkhlpnnabGreatDoor
open Go.RowKit
set_option maxHeartbeats 800000 in
theorem rbit_err (w:World) (B:Nat) (s:ByteArray) (p:Nat) (tv:Value) (t:List UInt8) (M:Int) (E:Nat) (h:Rf w B s p tv t M E) (hE:E ≠ 0) :
  Calls Tryz.prog 83 #[.pointer (some ⟨B,0,none⟩)] w fun e w' => e = .returned (.int .i64 0) /\ w=w':=by
 obtain ⟨-,-,-,-,c4,-⟩:=h.cell
 have hb:((E:Int) != 0)=true:=by rw [bne_iff_ne];omega
 clear h
 go_enter Tryz.func83,Tryz.ntmps83
 go_wp2
 go_ret
 exact ⟨rfl,rfl⟩
set_option maxHeartbeats 800000 in
theorem rbit_no (w:World) (B:Nat) (s:ByteArray) (p:Nat) (tv:Value) (t:List UInt8) (M:Int) (h:Rf w B s p tv t M 0) (hp:¬ p < 8*s.size) :
  Calls Tryz.prog 83 #[.pointer (some ⟨B,0,none⟩)] w fun e w' => e = .returned (.int .i64 0) /\ Rf w' B s p tv t M 1 /\ Kp 143 B w w':=by
 obtain ⟨c0,c1,-,-,c4,-⟩:=h.cell
 have HR:=hid h
 have hs:=h.sml
 clear h
 go_enter Tryz.func83,Tryz.ntmps83
 go_wp2
 go_quiet (fail)
 go_wp2_with (go_at_call 89;refine (stop_any _ B s p tv t M 1 (HR.out.drewN _)).mono ?_;rintro e w1 ⟨rfl,hr1,hk1⟩)
 go_ret
 exact ⟨rfl,hr1,((Kp.refl _ _ _).drewN _).trans hk1⟩
set_option maxHeartbeats 800000 in
theorem rnum_err (w:World) (B:Nat) (s:ByteArray) (p:Nat) (tv:Value) (t:List UInt8) (M:Int) (E:Nat) (h:Rf w B s p tv t M E) (hE:E ≠ 0) (n:Nat) (hn:n<=16) :
  Calls Tryz.prog 84 #[.pointer (some ⟨B,0,none⟩),.int .i64 n] w fun e w' => e = .returned (.int .i64 0) /\ w=w':=by
 have HB:=hid (rbit_err w B s p tv t M E h hE)
 clear h
 go_enter Tryz.func84,Tryz.ntmps84
 go_wp2
 go_loop [5,6] (fun v i => ∃ k:Nat,k<=n /\ i = .int .i64 k /\ v = .int .i64 0) (fun _ i => n - (intOf i).toNat)
 case atStart => exact ⟨0,by omega,rfl,rfl⟩
 case round =>
  obtain ⟨k,hk,rfl,rfl⟩:=hrel
  by_cases hlt:k < n
  ·go_wp2_with (first | (go_at_call 83;refine HB.out.mono ?_;rintro e w1 ⟨rfl,rfl⟩) | (go_at_call 96;refine (power_any (k:Int) _ (by omega) (by omega)).mono ?_;rintro e w1 ⟨rfl,rfl⟩))
   go_round
   case rel => exact ⟨k+1,by omega,by go_num,by simp⟩
   case measure => simp [intOf];omega
  ·go_wp2
   go_ret
   exact ⟨rfl,rfl⟩
set_option maxHeartbeats 800000 in
theorem rnum_ok (w:World) (B:Nat) (s:ByteArray) (p:Nat) (tv:Value) (t:List UInt8) (M:Int) (h:Rf w B s p tv t M 0) (n:Nat) (hn:n<=16) (hp:p+n<=8*s.size) :
  Calls Tryz.prog 84 #[.pointer (some ⟨B,0,none⟩),.int .i64 n] w fun e w' => e = .returned (.int .i64 (val s p n)) /\ Rf w' B s (p+n) tv t M 0 /\ Kp 143 B w w':=by
 have HR:=hid h
 clear h
 go_enter Tryz.func84,Tryz.ntmps84
 go_wp2
 go_loopw [5,6] (fun v i wr => ∃ k:Nat,k<=n /\ i = .int .i64 k /\ v = .int .i64 (val s p k) /\ Hid (Rf wr B s (p+k) tv t M 0) /\ Kp 143 B w wr) (fun _ i _ => n - (intOf i).toNat)
 case atStart => exact ⟨0,by omega,rfl,rfl,HR,Kp.refl _ _ _⟩
 case round =>
  obtain ⟨k,hk,rfl,rfl,hr,hK⟩:=hrel
  by_cases hlt:k < n
  ·have hv:=val_lt s p k
   obtain ⟨v,hvv⟩:∃ v,v=val s p k:=⟨_,rfl⟩
   obtain ⟨b,hb⟩:∃ b,b=bitAt s (p+k):=⟨_,rfl⟩
   have hb2:b < 2:=by rw [hb];exact bitAt_lt _ _
   have hpl:=pow_le15 k (by omega)
   obtain ⟨P,hP⟩:∃ P:Nat,P=2 ^ k:=⟨_,rfl⟩
   rw [<- hP] at hpl
   have hvP:v < P:=by rw [hvv,hP];exact hv
   obtain ⟨X,hX⟩:∃ X:Nat,X=b*P:=⟨_,rfl⟩
   have hbP:(b:Int)*(P:Int)=(X:Int):=by rw [hX];push_cast;rfl
   have hbl:X<=32768:=by
    have:b*P<=1*P:=Nat.mul_le_mul_right _ (by omega)
    omega
   have HV:Hid ((v:Int)+(X:Int)=(val s p (k+1):Int)):=by show _=_;rw [hX,hvv,hb,hP];simp [val]
   clear hX
   have HPW:Hid (∀ u:World,Calls Tryz.prog 96 #[.int .i64 (k:Int)] u fun e w' => e = .returned (.int .i64 (P:Int)) /\ u=w'):=fun u => (power_any (k:Int) u (by omega) (by omega)).mono fun e w' ⟨h1,h2⟩ => ⟨by rw [h1,hP];simp,h2⟩
   rw [<- hvv]
   have HB:=hid hb
   clear hv hvv hb hP
   go_wp2_with (first | (go_at_call 83;refine (rbit_ok _ _ _ _ _ _ _ hr.out (by omega)).mono ?_;rintro e w' ⟨rfl,hr1,hk1⟩;rw [<- HB.out];have HR1:=hid hr1;clear hr1) | (go_at_call 96;refine (HPW.out _).mono ?_;rintro e w1 ⟨rfl,rfl⟩))
   exact ⟨⟨k+1,by omega,by go_num,int_eq HV.out,HR1,hK.trans hk1⟩,by simp [intOf];omega⟩
  ·obtain rfl:k=n:=by omega
   go_wp2
   go_ret
   exact ⟨rfl,hr.out,hK⟩
set_option maxHeartbeats 800000 in
theorem rnum_no (w:World) (B:Nat) (s:ByteArray) (p:Nat) (tv:Value) (t:List UInt8) (M:Int) (h:Rf w B s p tv t M 0) (n:Nat) (hn:n<=16) (hp:¬ p+n<=8*s.size) :
  Calls Tryz.prog 84 #[.pointer (some ⟨B,0,none⟩),.int .i64 n] w fun e w' => ∃ (v p':Nat),v < 65536 /\ e = .returned (.int .i64 v) /\ Rf w' B s p' tv t M 1 /\ Kp 143 B w w':=by
 have HR:=hid h
 have hfit:=h.fit
 clear h
 go_enter Tryz.func84,Tryz.ntmps84
 go_wp2
 go_loopw [5,6] (fun v i wr => ∃ (k x q E:Nat),k<=n /\ x < 2 ^ k /\ i = .int .i64 k /\ v = .int .i64 x /\ (E=1 ∨ E=0 /\ q=p+k) /\ Hid (Rf wr B s q tv t M E) /\ Kp 143 B w wr) (fun _ i _ => n - (intOf i).toNat)
 case atStart => exact ⟨0,0,p,0,by omega,by simp,rfl,rfl,.inr ⟨rfl,rfl⟩,HR,Kp.refl _ _ _⟩
 case round =>
  obtain ⟨k,v,q,E,hk,hv,rfl,rfl,hE,hr,hK⟩:=hrel
  have hps:2 ^ (k+1)=2*2 ^ k:=by rw [Nat.pow_succ];omega
  have hqf:=hr.out.fit
  by_cases hlt:k < n
  ·have hpl:=pow_le15 k (by omega)
   obtain ⟨P,hP⟩:∃ P:Nat,P=2 ^ k:=⟨_,rfl⟩
   rw [<- hP] at hpl hv hps
   have HPS:=hid hps
   have HPW:Hid (∀ u:World,Calls Tryz.prog 96 #[.int .i64 (k:Int)] u fun e w' => e = .returned (.int .i64 (P:Int)) /\ u=w'):=fun u => (power_any (k:Int) u (by omega) (by omega)).mono fun e w' ⟨h1,h2⟩ => ⟨by rw [h1,hP];simp,h2⟩
   clear hP hps
   rcases hE with rfl | ⟨rfl,rfl⟩
   ·go_wp2_with (first | (go_at_call 83;refine (rbit_err _ _ _ _ _ _ _ _ hr.out (by omega)).mono ?_;rintro e w' ⟨rfl,rfl⟩) | (go_at_call 96;refine (HPW.out _).mono ?_;rintro e w1 ⟨rfl,rfl⟩))
    exact ⟨⟨k+1,v,q,1,by omega,by have:=HPS.out;omega,by go_num,int_eq (by omega),.inl rfl,hr,hK⟩,by simp [intOf];omega⟩
   ·by_cases hb:p+k < 8*s.size
    ·obtain ⟨b,hbb⟩:∃ b,b=bitAt s (p+k):=⟨_,rfl⟩
     have hb2:b < 2:=by rw [hbb];exact bitAt_lt _ _
     obtain ⟨X,hX⟩:∃ X:Nat,X=b*P:=⟨_,rfl⟩
     have hbP:(b:Int)*(P:Int)=(X:Int):=by rw [hX];push_cast;rfl
     have hbl:X<=P:=by
      have:b*P<=1*P:=Nat.mul_le_mul_right _ (by omega)
      omega
     clear hX
     have HB:=hid hbb
     clear hbb
     go_wp2_with (first | (go_at_call 83;refine (rbit_ok _ _ _ _ _ _ _ hr.out hb).mono ?_;rintro e w' ⟨rfl,hr1,hk1⟩;rw [<- HB.out];have HR1:=hid hr1;clear hr1) | (go_at_call 96;refine (HPW.out _).mono ?_;rintro e w1 ⟨rfl,rfl⟩))
     exact ⟨⟨k+1,v+X,p+k+1,0,by omega,by have:=HPS.out;omega,by go_num,int_eq (by omega),.inr ⟨rfl,by omega⟩,HR1,hK.trans hk1⟩,by simp [intOf];omega⟩
    ·go_wp2_with (first | (go_at_call 83;refine (rbit_no _ _ _ _ _ _ _ hr.out hb).mono ?_;rintro e w' ⟨rfl,hr1,hk1⟩;have HR1:=hid hr1;clear hr1) | (go_at_call 96;refine (HPW.out _).mono ?_;rintro e w1 ⟨rfl,rfl⟩))
     exact ⟨⟨k+1,v,p+k,1,by omega,by have:=HPS.out;omega,by go_num,int_eq (by omega),.inl rfl,HR1,hK.trans hk1⟩,by simp [intOf];omega⟩
  ·obtain rfl:k=n:=by omega
   have hE1:E=1:=by
    rcases hE with h | ⟨rfl,rfl⟩
    ·exact h
    ·omega
   subst hE1
   have h16:2 ^ k<=2 ^ 16:=Nat.pow_le_pow_right (by omega) hn
   have e16:(2:Nat) ^ 16=65536:=by decide
   have hv6:v < 65536:=by omega
   clear hE h16 e16 hps hv
   go_wp2
   go_ret
   exact ⟨v,q,hv6,rfl,hr.out,hK⟩
set_option maxRecDepth 20000 in
set_option maxHeartbeats 800000 in
theorem put_ok (w:World) (B:Nat) (s:ByteArray) (p:Nat) (tv:Value) (t:List UInt8) (M:Int) (b:UInt8) (h:Rf w B s p tv t M 0) (hp:(t.length:Int) < M) (hrm:t.length+1<=258*p) :
  Calls Tryz.prog 134 #[.pointer (some ⟨B,0,none⟩),.int .u8 b.toNat] w fun e w' => e = .returned (.tuple #[]) /\ (∃ tv',Rf w' B s p tv' (t ++ [b]) M 0) /\ Kp 143 B w w':=by
 obtain ⟨-,-,c2,c3,c4,-⟩:=h.cell
 have f2:=h.free 2
 have ht:t.length<=68719476736:=by have:=h.rom;have:=h.fit;have:=h.sml;omega
 have hge:decide (M<=(t.length:Int))=false:=by simp;omega
 have hB:=h.lt
 have HR:=hid h
 obtain ⟨i0,hi,hz0,hz1,hz2⟩:=info_parts info5
 obtain ⟨ao,c,rfl⟩:=h.shape
 clear h
 go_enter Tryz.func134,Tryz.ntmps134
 go_wp2
 go_quiet (fail)
 go_wp2_with (at_builtin;refine wpList_append_lies _ rfl (.tmp 32) (.tmp 34) 72 rfl (B+1) 5 i0 (.int .u8 0) 1 1 Tryz.underlying72 hi hz0 hz1 hz2 rfl (by decide) (.slice ao t.length c) t.length (bys t) rfl ((HR.out.drewN _).alloc _).own ⟨w.heap.size,0,none⟩ 1 1 [.int .u8 b.toNat] rfl rfl (cell_one_new _ _ _) ?c2 (by decide) ?c3 ?c4 ?c5 _ rfl ?_)
 case c2 => intro u hu;simp at hu;subst hu;rfl
 case c3 => unfold maxLen;omega
 case c4 => omega
 case c5 => simp;omega
 intro g cap w1 hown hgrow hat hlt
 have hK1:Kp 143 B w w1:=(((Kp.refl 143 B w).drewN nq).alloc (by simp;omega) _).grown hgrow (by simp;omega) ((HR.out.drewN nq).alloc _).own
 obtain ⟨far,hb0⟩:=((HR.out.drewN nq).alloc (.cells #[.int .u8 b.toNat] 5)).blk
 have hblk:=(hgrow.block B (by simp;omega) (fun e => by
   have:=((HR.out.drewN nq).alloc (.cells #[.int .u8 b.toNat] 5)).own.lt B e.symm
   omega)).trans hb0
 have c2':w1.cell? ⟨B,2,none⟩=some (.slice ao t.length c):=by rw [cell_of_row w1 B 2 _ 143 (0,0) hblk];rfl
 have f2':w1.frozen? ⟨B,2,none⟩=false:=by simp [World.frozen?,hblk]
 clear hgrow hat hlt c2 c3 c4 f2 hi hz0 hz1 hz2 hb0
 have HB1:=hid hblk
 clear hblk
 go_wp2
 go_end0
 refine ⟨rfl,⟨.slice (some ⟨g,0,none⟩) (t.length+1) cap,⟨⟨far,?_⟩,?_,HR.out.sml,HR.out.fit,by simp;omega,by simp;exact hrm⟩⟩,hK1.setCell HB1.out rfl _⟩
 ·rw [blk_set HB1.out]
  rfl
 ·rw [bys_snoc,List.length_append]
  exact own_set hown rfl _
set_option maxHeartbeats 800000 in
theorem put_no (w:World) (B:Nat) (s:ByteArray) (p:Nat) (tv:Value) (t:List UInt8) (M:Int) (b:UInt8) (h:Rf w B s p tv t M 0) (hp:¬ (t.length:Int) < M) :
  Calls Tryz.prog 134 #[.pointer (some ⟨B,0,none⟩),.int .u8 b.toNat] w fun e w' => e = .returned (.tuple #[]) /\ Rf w' B s p tv t M 6 /\ Kp 143 B w w':=by
 obtain ⟨-,-,c2,c3,c4,-⟩:=h.cell
 have hge:decide (M<=(t.length:Int))=true:=by simp;omega
 have HR:=hid h
 obtain ⟨ao,c,rfl⟩:=h.shape
 clear h hp
 go_enter Tryz.func134,Tryz.ntmps134
 go_wp2
 go_quiet (fail)
 go_wp2_with (go_at_call 89;refine (stop_any _ B s p _ t M 6 (HR.out.drewN _)).mono ?_;rintro e w1 ⟨rfl,hr1,hk1⟩;have d4:=hr1.cell.2.2.2.2.1;have HR1:=hid hr1;clear hr1)
 go_end0
 exact ⟨rfl,HR1.out,((Kp.refl _ _ _).drewN _).trans hk1⟩
end Go.Proofs.YthdmjmnkhlpnnabGreatDoor
namespace Go.Proofs.YthdmjmnkhlpnnabGreatDoor
open Go.RowKit
set_option maxHeartbeats 800000 in
theorem rnum_few (w:World) (B:Nat) (s:ByteArray) (p:Nat) (tv:Value) (t:List UInt8) (M:Int) (h:Rf w B s p tv t M 0) (n:Nat) (hn:n<=16) (hp:¬ p+n<=8*s.size) :
  Calls Tryz.prog 84 #[.pointer (some ⟨B,0,none⟩),.int .i64 n] w fun e w' => ∃ (v p':Nat),v < 2 ^ n /\ e = .returned (.int .i64 v) /\ Rf w' B s p' tv t M 1 /\ Kp 143 B w w':=by
 have HR:=hid h
 have hfit:=h.fit
 clear h
 go_enter Tryz.func84,Tryz.ntmps84
 go_wp2
 go_loopw [5,6] (fun v i wr => ∃ (k x q E:Nat),k<=n /\ x < 2 ^ k /\ i = .int .i64 k /\ v = .int .i64 x /\ (E=1 ∨ E=0 /\ q=p+k) /\ Hid (Rf wr B s q tv t M E) /\ Kp 143 B w wr) (fun _ i _ => n - (intOf i).toNat)
 case atStart => exact ⟨0,0,p,0,by omega,by simp,rfl,rfl,.inr ⟨rfl,rfl⟩,HR,Kp.refl _ _ _⟩
 case round =>
  obtain ⟨k,v,q,E,hk,hv,rfl,rfl,hE,hr,hK⟩:=hrel
  have hps:2 ^ (k+1)=2*2 ^ k:=by rw [Nat.pow_succ];omega
  have hqf:=hr.out.fit
  by_cases hlt:k < n
  ·have hpl:=pow_le15 k (by omega)
   obtain ⟨P,hP⟩:∃ P:Nat,P=2 ^ k:=⟨_,rfl⟩
   rw [<- hP] at hpl hv hps
   have HPS:=hid hps
   have HPW:Hid (∀ u:World,Calls Tryz.prog 96 #[.int .i64 (k:Int)] u fun e w' => e = .returned (.int .i64 (P:Int)) /\ u=w'):=fun u => (power_any (k:Int) u (by omega) (by omega)).mono fun e w' ⟨h1,h2⟩ => ⟨by rw [h1,hP];simp,h2⟩
   clear hP hps
   rcases hE with rfl | ⟨rfl,rfl⟩
   ·go_wp2_with (first | (go_at_call 83;refine (rbit_err _ _ _ _ _ _ _ _ hr.out (by omega)).mono ?_;rintro e w' ⟨rfl,rfl⟩) | (go_at_call 96;refine (HPW.out _).mono ?_;rintro e w1 ⟨rfl,rfl⟩))
    exact ⟨⟨k+1,v,q,1,by omega,by have:=HPS.out;omega,by go_num,int_eq (by omega),.inl rfl,hr,hK⟩,by simp [intOf];omega⟩
   ·by_cases hb:p+k < 8*s.size
    ·obtain ⟨b,hbb⟩:∃ b,b=bitAt s (p+k):=⟨_,rfl⟩
     have hb2:b < 2:=by rw [hbb];exact bitAt_lt _ _
     obtain ⟨X,hX⟩:∃ X:Nat,X=b*P:=⟨_,rfl⟩
     have hbP:(b:Int)*(P:Int)=(X:Int):=by rw [hX];push_cast;rfl
     have hbl:X<=P:=by
      have:b*P<=1*P:=Nat.mul_le_mul_right _ (by omega)
      omega
     clear hX
     have HB:=hid hbb
     clear hbb
     go_wp2_with (first | (go_at_call 83;refine (rbit_ok _ _ _ _ _ _ _ hr.out hb).mono ?_;rintro e w' ⟨rfl,hr1,hk1⟩;rw [<- HB.out];have HR1:=hid hr1;clear hr1) | (go_at_call 96;refine (HPW.out _).mono ?_;rintro e w1 ⟨rfl,rfl⟩))
     exact ⟨⟨k+1,v+X,p+k+1,0,by omega,by have:=HPS.out;omega,by go_num,int_eq (by omega),.inr ⟨rfl,by omega⟩,HR1,hK.trans hk1⟩,by simp [intOf];omega⟩
    ·go_wp2_with (first | (go_at_call 83;refine (rbit_no _ _ _ _ _ _ _ hr.out hb).mono ?_;rintro e w' ⟨rfl,hr1,hk1⟩;have HR1:=hid hr1;clear hr1) | (go_at_call 96;refine (HPW.out _).mono ?_;rintro e w1 ⟨rfl,rfl⟩))
     exact ⟨⟨k+1,v,p+k,1,by omega,by have:=HPS.out;omega,by go_num,int_eq (by omega),.inl rfl,HR1,hK.trans hk1⟩,by simp [intOf];omega⟩
  ·obtain rfl:k=n:=by omega
   have hE1:E=1:=by
    rcases hE with h | ⟨rfl,rfl⟩
    ·exact h
    ·omega
   subst hE1
   have HV6:=hid hv
   clear hE hps hv
   go_wp2
   go_ret
   exact ⟨v,q,HV6.out,rfl,hr.out,hK⟩
theorem rnum_gen (w:World) (B:Nat) (s:ByteArray) (p:Nat) (tv:Value) (t:List UInt8) (M:Int) (E:Nat) (h:Rf w B s p tv t M E) (hE:E=0 ∨ E=1) (n:Nat) (hn:n<=16) :
  Calls Tryz.prog 84 #[.pointer (some ⟨B,0,none⟩),.int .i64 n] w fun e w' => ∃ (v p' E':Nat),v < 2 ^ n /\ e = .returned (.int .i64 v) /\ Rf w' B s p' tv t M E' /\ Kp 143 B w w' /\ (E'=0 /\ E=0 /\ p+n<=8*s.size /\ p'=p+n /\ v=val s p n ∨ E'=1 /\ ¬ (E=0 /\ p+n<=8*s.size)):=by
 rcases hE with rfl | rfl
 ·by_cases hp:p+n<=8*s.size
  ·refine (rnum_ok w B s p tv t M h n hn hp).mono ?_
   rintro e w' ⟨rfl,hr,hk⟩
   exact ⟨val s p n,p+n,0,val_lt s p n,rfl,hr,hk,.inl ⟨rfl,rfl,hp,rfl,rfl⟩⟩
  ·refine (rnum_few w B s p tv t M h n hn hp).mono ?_
   rintro e w' ⟨v,p',hv,rfl,hr,hk⟩
   exact ⟨v,p',1,hv,rfl,hr,hk,.inr ⟨rfl,fun x => hp x.2⟩⟩
 ·refine (rnum_err w B s p tv t M 1 h (by omega) n hn).mono ?_
  rintro e w' ⟨rfl,rfl⟩
  exact ⟨0,p,1,Nat.two_pow_pos n,rfl,h,Kp.refl _ _ _,.inr ⟨rfl,fun x => absurd x.1 (by omega)⟩⟩
end Go.Proofs.YthdmjmnkhlpnnabGreatDoor
namespace Go.Proofs.YthdmjmnkhlpnnabGreatDoor
open Go.RowKit
set_option maxRecDepth 20000 in
set_option maxHeartbeats 1000000 in
theorem refcodes_own (ao:Option Addr) (c:Nat) (zs:List Int) (w:World) (hs:Seg w ao zs) (hm:zs.length<=320) (hok:zs.any nl=false) (hw:wt zs<=32768) :
  Calls Tryz.prog 52 #[.slice ao zs.length c] w fun e w' => ∃ ao' c',e = .returned (.tuple #[.slice ao' (bts zs).length c',.int .i64 0]) /\ w'.ownsRow w.heap.size 3 1 (.slice ao' (bts zs).length c') (bts zs).length ((bts zs).map (Value.int .i64)) /\ Below w.heap.size w w':=by
 obtain ⟨i0,hi,hz0,hz1,hz2⟩:=info_parts info3
 have hf:(!zs.any nl && decide (zs.length<=320))=true:=by simp [hok,hm]
 have HOK:Hid (zs.any nl=false):=hok
 go_enter Tryz.func52,Tryz.ntmps52
 go_wp2_with (first | (go_at_call 94;refine (right_any _ _ _ _ hs (by unfold maxLen;omega)).mono ?_;rintro e w' ⟨rfl,rfl⟩) | (go_at_call 95;refine (refweight_any _ _ _ _ hs hm hok).mono ?_;rintro e w' ⟨rfl,rfl⟩) | (go_at_call 96;refine (power_any _ _ (by omega) (by omega)).mono ?_;rintro e w' ⟨rfl,rfl⟩))
 clear hok hf hw
 go_loopw [5,6] (fun v i wr => ∃ k:Nat,k<=zs.length /\ i = .int .i64 k /\ wr.ownsRow w.heap.size 3 1 v k (((bts zs).take k).map (Value.int .i64)) /\ Below w.heap.size w wr) (fun _ i _ => zs.length - (intOf i).toNat)
 case atStart => exact ⟨0,by omega,rfl,World.ownsRow_nil _ _ _ _,Below.refl _ _⟩
 case round =>
  obtain ⟨i,hik,rfl,hown,hB⟩:=hrel
  by_cases hlt:i < zs.length
  ·obtain ⟨b,off,rfl,hc⟩:=hs (by omega)
   obtain ⟨x,hx⟩:∃ z,z=zs.getD i 0:=⟨_,rfl⟩
   have hcx:w.cell? ⟨b,off+i,none⟩=some (.int .i64 x):=by rw [hx];exact hc i hlt
   have hbl:b < w.heap.size:=World.block_lt_of_cell? w _ hcx
   have hxb:=ok_getD HOK.out i
   rw [<- hx] at hxb
   have HX:Hid (x=zs.getD i 0):=hx
   have HC:Hid (∀ j,j < zs.length->w.cell? ⟨b,off+j,none⟩=some (.int .i64 (zs.getD j 0))):=hc
   have HCX:Hid (w.cell? ⟨b,off+i,none⟩=some (.int .i64 x)):=hcx
   clear hx hs hc hcx
   go_wp2
   go_loopw [7,8] (fun t j wq => ∃ k q:Nat,k<=zs.length /\ j = .int .i64 k /\ Hid (q=if 0 < x then ahd zs i k else 0) /\ q<=16384*k /\ t = .int .i64 q /\ wq.ownsRow w.heap.size 3 1 u5 i (((bts zs).take i).map (Value.int .i64)) /\ Below w.heap.size w wq) (fun _ j _ => zs.length - (intOf j).toNat)
   case atStart => exact ⟨0,0,by omega,rfl,by show _=_;simp [ahd],by omega,rfl,hown,hB⟩
   case round =>
    clear hown hB
    obtain ⟨k,q,hk,rfl,HQ,hq,rfl,hown,hB⟩:=hrel
    have hcx:wr.cell? ⟨b,off+i,none⟩=some (.int .i64 x):=(hB.cell (p:=⟨b,off+i,none⟩) hbl).trans HCX.out
    by_cases hgo:k < zs.length /\ 0 < x
    ·obtain ⟨hkl,hx0⟩:=hgo
     obtain ⟨y,hy⟩:∃ z,z=zs.getD k 0:=⟨_,rfl⟩
     have hcy:wr.cell? ⟨b,off+k,none⟩=some (.int .i64 y):=(hB.cell (p:=⟨b,off+k,none⟩) hbl).trans (by rw [hy];exact HC.out k hkl)
     have hyb:=ok_getD HOK.out k
     rw [<- hy] at hyb
     have HY:Hid (y=zs.getD k 0):=hy
     clear hy
     have HAW:Hid (aw zs i k=if 0 < y /\ (y < x ∨ y=x /\ k < i) then 2 ^ (15 - y.toNat) else 0):=by show _=_;unfold aw;rw [<- HX.out,<- HY.out]
     by_cases hyes:0 < y /\ (y < x ∨ y=x /\ k < i)
     ·have hy0:0 < y:=hyes.1
      have dy0:decide (0 < y)=true:=by simpa using hy0
      obtain ⟨p,hpw⟩:∃ p:Nat,p=2 ^ (15 - y.toNat):=⟨_,rfl⟩
      have hb1:(2:Nat) ^ (15 - y.toNat)<=2 ^ 14:=Nat.pow_le_pow_right (by omega) (by omega)
      rw [<- hpw] at hb1
      have HP2:Hid (((2 ^ (15 - y).toNat:Nat):Int)=(p:Int)):=by show _=_;rw [hpw,show (15 - y).toNat=15 - y.toNat by omega]
      have HQ':Hid (q+p=if 0 < x then ahd zs i (k+1) else 0):=by show _=_;rw [if_pos hx0,ahd,HAW.out,if_pos hyes,HQ.out,if_pos hx0,hpw]
      clear hpw
      by_cases hyx:y < x
      ·have dyx:decide (y < x)=true:=by simpa using hyx
       clear hyes
       go_wp2
       go_quiet (fail)
       go_wp2_with (go_at_call 96;refine (power_any _ _ (by omega) (by omega)).mono ?_;rintro e w' ⟨rfl,rfl⟩;rw [HP2.out])
       go_roundw
       case rel => exact ⟨k+1,q+p,by omega,by go_num,HQ',by omega,by go_num,hown,below_drewN' hB _⟩
       case measure => simp [intOf];omega
      ·have dyx:decide (y < x)=false:=by simpa using hyx
       have e1:(y == x)=true:=by simp;omega
       have e2:decide ((k:Int) < (i:Int))=true:=by simp;omega
       have hki:k < i:=by omega
       clear hyes
       go_wp2
       go_quiet (fail)
       go_wp2_with (go_at_call 96;refine (power_any _ _ (by omega) (by omega)).mono ?_;rintro e w' ⟨rfl,rfl⟩;rw [HP2.out])
       go_roundw
       case rel => exact ⟨k+1,q+p,by omega,by go_num,HQ',by omega,by go_num,hown,below_drewN' hB _⟩
       case measure => simp [intOf];omega
     ·have HQ':Hid (q=if 0 < x then ahd zs i (k+1) else 0):=by show _=_;rw [if_pos hx0,ahd,HAW.out,if_neg hyes,HQ.out,if_pos hx0];rfl
      by_cases hy0:0 < y
      ·have dy0:decide (0 < y)=true:=by simpa using hy0
       have hyx:¬ y < x:=by omega
       have dyx:decide (y < x)=false:=by simpa using hyx
       by_cases hex:y=x
       ·have e1:(y == x)=true:=by simp;omega
        have e2:decide ((k:Int) < (i:Int))=false:=by simp;omega
        have hki:¬ k < i:=by omega
        have HEX:Hid (y=x):=hex
        clear hyes hex
        go_wp2
        go_quiet (fail)
        go_wp2
        go_roundw
        case rel => exact ⟨k+1,q,by omega,by go_num,HQ',by omega,by go_num,hown,below_drewN' hB _⟩
        case measure => simp [intOf];omega
       ·have e1:(y == x)=false:=by simpa using hex
        clear hyes hex
        go_wp2
        go_quiet (fail)
        go_wp2
        go_roundw
        case rel => exact ⟨k+1,q,by omega,by go_num,HQ',by omega,by go_num,hown,below_drewN' hB _⟩
        case measure => simp [intOf];omega
      ·have dy0:decide (0 < y)=false:=by simpa using hy0
       clear hyes
       go_wp2
       go_quiet (fail)
       go_wp2
       go_roundw
       case rel => exact ⟨k+1,q,by omega,by go_num,HQ',by omega,by go_num,hown,below_drewN' hB _⟩
       case measure => simp [intOf];omega
    ·have HQ':Hid (q / 2 ^ (15 - x.toNat)=bt zs i):=by
      show _=_
      by_cases hx0:0 < x
      ·have hkk:k=zs.length:=by omega
       rw [HQ.out,if_pos hx0,hkk,HX.out]
       exact ahd_bt zs i hlt (by rw [<- HX.out];exact hx0) (by rw [<- HX.out];omega)
      ·rw [HQ.out,if_neg hx0]
       unfold bt
       rw [<- HX.out,if_neg hx0]
       simp
     obtain ⟨p,hpw⟩:∃ p:Nat,p=2 ^ (15 - x.toNat):=⟨_,rfl⟩
     have hb0:1<=p:=by rw [hpw];exact Nat.one_le_two_pow
     have hb1:(2:Nat) ^ (15 - x.toNat)<=2 ^ 15:=Nat.pow_le_pow_right (by omega) (by omega)
     rw [<- hpw] at hb1
     have HP2:Hid (((2 ^ (15 - x).toNat:Nat):Int)=(p:Int)):=by show _=_;rw [hpw,show (15 - x).toNat=15 - x.toNat by omega]
     have HBT:Hid (((bt zs i:Nat):Int)=(q:Int) / (p:Int)):=by
      show _=_
      rw [<- HQ'.out,<- hpw]
      exact Int.natCast_ediv q p
     have hqp:0<=(q:Int) / (p:Int) /\ (q:Int) / (p:Int)<=(q:Int):=⟨Int.ediv_nonneg (by omega) (by omega),Int.ediv_le_self _ (by omega)⟩
     clear hpw
     by_cases hkl:k < zs.length
     ·have hx0:¬ 0 < x:=fun h => hgo ⟨hkl,h⟩
      clear hgo
      go_wp2_with (first | (go_at_call 96;refine (power_any _ _ (by omega) (by omega)).mono ?_;rintro e w' ⟨rfl,rfl⟩;rw [HP2.out]) | (at_builtin;refine wpList_append_own _ rfl (.tmp 76) (.tmp 85) 23 rfl w.heap.size 3 i0 (.int .i64 0) 1 8 Tryz.underlying23 hi hz0 hz1 hz2 rfl (by decide) _ _ _ rfl (hown.alloc _) ⟨wr.heap.size,0,none⟩ 1 1 [.int .i64 ((q:Int) / (p:Int))] rfl rfl (cell_one_new _ _ _) ?c2a ?c3a ?c4a ?c5a ?_))
      case c2a => intro u hu;simp at hu;subst hu;rfl
      case c3a => unfold maxLen;omega
      case c4a => omega
      case c5a => have:=hB.size;simp;omega
      intro v' w1 hown' hgrow hnn
      clear hnn
      have R:=hid (step_app hlt HBT.out hown hB hown' hgrow)
      clear hown hown' hgrow hqp hb0 hb1 hcx hq
      go_wp2
      go_roundw
      case rel => exact ⟨i+1,by omega,by go_num,R.out.1,R.out.2⟩
      case measure => simp [intOf];omega
     ·clear hgo
      go_wp2_with (first | (go_at_call 96;refine (power_any _ _ (by omega) (by omega)).mono ?_;rintro e w' ⟨rfl,rfl⟩;rw [HP2.out]) | (at_builtin;refine wpList_append_own _ rfl (.tmp 76) (.tmp 85) 23 rfl w.heap.size 3 i0 (.int .i64 0) 1 8 Tryz.underlying23 hi hz0 hz1 hz2 rfl (by decide) _ _ _ rfl (hown.alloc _) ⟨wr.heap.size,0,none⟩ 1 1 [.int .i64 ((q:Int) / (p:Int))] rfl rfl (cell_one_new _ _ _) ?c2b ?c3b ?c4b ?c5b ?_))
      case c2b => intro u hu;simp at hu;subst hu;rfl
      case c3b => unfold maxLen;omega
      case c4b => omega
      case c5b => have:=hB.size;simp;omega
      intro v' w1 hown' hgrow hnn
      clear hnn
      have R:=hid (step_app hlt HBT.out hown hB hown' hgrow)
      clear hown hown' hgrow hqp hb0 hb1 hcx hq
      go_wp2
      go_roundw
      case rel => exact ⟨i+1,by omega,by go_num,R.out.1,R.out.2⟩
      case measure => simp [intOf];omega
  ·go_wp2
   go_ret2
   have e1:(bts zs).take i=bts zs:=List.take_of_length_le (by rw [bts_length];omega)
   rw [e1] at hown
   obtain ⟨ao',c',rfl,-⟩:=owns_seg hown
   refine ⟨ao',c',rfl,?_,hB⟩
   have hn:=hown.1
   rw [List.length_map,Nat.mul_one] at hn
   rw [<- hn] at hown
   exact hown
end Go.Proofs.YthdmjmnkhlpnnabGreatDoor
namespace Go.Proofs.YthdmjmnkhlpnnabGreatDoor
open Go.RowKit
def cd4 (f m a:Nat->Int) (sv:Value):Array Value:=arr f ++ arr m ++ arr a ++ #[sv]
theorem cd4_size (f m a:Nat->Int) (sv:Value):(cd4 f m a sv).size=49:=by simp [cd4,arr_size]
theorem cd4_f (f m a:Nat->Int) (sv:Value) (j:Nat) (h:j < 16):(cd4 f m a sv)[j]? = some (.int .i64 (f j)):=by
 unfold cd4
 rw [Array.getElem?_append_left (by simp [arr_size];omega),Array.getElem?_append_left (by simp [arr_size];omega),Array.getElem?_append_left (by simp [arr_size];omega)]
 exact arr_get f j h
theorem cd4_m (f m a:Nat->Int) (sv:Value) (j:Nat) (h:j < 16):(cd4 f m a sv)[16+j]? = some (.int .i64 (m j)):=by
 unfold cd4
 rw [Array.getElem?_append_left (by simp [arr_size];omega),Array.getElem?_append_left (by simp [arr_size];omega),Array.getElem?_append_right (by simp [arr_size]),arr_size,Nat.add_sub_cancel_left]
 exact arr_get m j h
theorem cd4_a (f m a:Nat->Int) (sv:Value) (j:Nat) (h:j < 16):(cd4 f m a sv)[32+j]? = some (.int .i64 (a j)):=by
 unfold cd4
 rw [Array.getElem?_append_left (by simp [arr_size];omega),Array.getElem?_append_right (by simp [arr_size])]
 rw [show 32+j - (arr f ++ arr m).size=j by simp [arr_size]]
 exact arr_get a j h
theorem cd4_s (f m a:Nat->Int) (sv:Value):(cd4 f m a sv)[48]? = some sv:=by
 unfold cd4
 rw [Array.getElem?_append_right (by simp [arr_size])]
 simp [arr_size]
theorem cd4_big (f m a:Nat->Int) (sv:Value) (i:Nat) (h:49<=i):(cd4 f m a sv)[i]? = none:=Array.getElem?_eq_none (by rw [cd4_size];exact h)
theorem cd4_split (i:Nat):i < 16 ∨ (∃ j,j < 16 /\ i=16+j) ∨ (∃ j,j < 16 /\ i=32+j) ∨ i=48 ∨ 49<=i:=by
 rcases Nat.lt_or_ge i 16 with h | h
 ·exact .inl h
 rcases Nat.lt_or_ge i 32 with h2 | h2
 ·exact .inr (.inl ⟨i - 16,by omega,by omega⟩)
 rcases Nat.lt_or_ge i 48 with h3 | h3
 ·exact .inr (.inr (.inl ⟨i - 32,by omega,by omega⟩))
 ·by_cases h4:i=48
  ·exact .inr (.inr (.inr (.inl h4)))
  ·exact .inr (.inr (.inr (.inr (by omega))))
theorem cd4_ext {f' m' a':Nat->Int} {sv':Value} {cs:Array Value} (hs:cs.size=49) (hf:∀ j,j < 16->cs[j]? = some (.int .i64 (f' j))) (hm:∀ j,j < 16->cs[16+j]? = some (.int .i64 (m' j))) (ha:∀ j,j < 16->cs[32+j]? = some (.int .i64 (a' j))) (hv:cs[48]? = some sv'):cs=cd4 f' m' a' sv':=by
 apply Array.ext_getElem?
 intro i
 rcases cd4_split i with h | ⟨j,h,rfl⟩ | ⟨j,h,rfl⟩ | rfl | h
 ·rw [hf i h,cd4_f _ _ _ _ _ h]
 ·rw [hm j h,cd4_m _ _ _ _ _ h]
 ·rw [ha j h,cd4_a _ _ _ _ _ h]
 ·rw [hv,cd4_s]
 ·rw [cd4_big _ _ _ _ _ h,Array.getElem?_eq_none (by omega)]
theorem cd4_setf (f m a:Nat->Int) (sv:Value) (j:Nat) (hj:j < 16) (z:Int):(cd4 f m a sv).setIfInBounds j (.int .i64 z)=cd4 (fun i => if i=j then z else f i) m a sv:=by
 refine cd4_ext (by rw [Array.size_setIfInBounds,cd4_size]) (fun i hi => ?_) (fun i hi => ?_) (fun i hi => ?_) ?_ <;> rw [Array.getElem?_setIfInBounds]
 ·by_cases e:j=i
  ·subst e;simp [cd4_size];omega
  ·rw [if_neg e,cd4_f _ _ _ _ _ hi,if_neg (by omega)]
 ·rw [if_neg (by omega),cd4_m _ _ _ _ _ hi]
 ·rw [if_neg (by omega),cd4_a _ _ _ _ _ hi]
 ·rw [if_neg (by omega),cd4_s]
theorem cd4_setm (f m a:Nat->Int) (sv:Value) (j:Nat) (hj:j < 16) (z:Int):(cd4 f m a sv).setIfInBounds (16+j) (.int .i64 z)=cd4 f (fun i => if i=j then z else m i) a sv:=by
 refine cd4_ext (by rw [Array.size_setIfInBounds,cd4_size]) (fun i hi => ?_) (fun i hi => ?_) (fun i hi => ?_) ?_ <;> rw [Array.getElem?_setIfInBounds]
 ·rw [if_neg (by omega),cd4_f _ _ _ _ _ hi]
 ·by_cases e:j=i
  ·subst e;simp [cd4_size];omega
  ·rw [if_neg (by omega),cd4_m _ _ _ _ _ hi,if_neg (by omega)]
 ·rw [if_neg (by omega),cd4_a _ _ _ _ _ hi]
 ·rw [if_neg (by omega),cd4_s]
theorem cd4_seta (f m a:Nat->Int) (sv:Value) (j:Nat) (hj:j < 16) (z:Int):(cd4 f m a sv).setIfInBounds (32+j) (.int .i64 z)=cd4 f m (fun i => if i=j then z else a i) sv:=by
 refine cd4_ext (by rw [Array.size_setIfInBounds,cd4_size]) (fun i hi => ?_) (fun i hi => ?_) (fun i hi => ?_) ?_ <;> rw [Array.getElem?_setIfInBounds]
 ·rw [if_neg (by omega),cd4_f _ _ _ _ _ hi]
 ·rw [if_neg (by omega),cd4_m _ _ _ _ _ hi]
 ·by_cases e:j=i
  ·subst e;simp [cd4_size];omega
  ·rw [if_neg (by omega),cd4_a _ _ _ _ _ hi,if_neg (by omega)]
 ·rw [if_neg (by omega),cd4_s]
theorem cd4_sets (f m a:Nat->Int) (sv sw:Value):(cd4 f m a sv).setIfInBounds 48 sw=cd4 f m a sw:=by
 refine cd4_ext (by rw [Array.size_setIfInBounds,cd4_size]) (fun i hi => ?_) (fun i hi => ?_) (fun i hi => ?_) ?_ <;> rw [Array.getElem?_setIfInBounds]
 ·rw [if_neg (by omega),cd4_f _ _ _ _ _ hi]
 ·rw [if_neg (by omega),cd4_m _ _ _ _ _ hi]
 ·rw [if_neg (by omega),cd4_a _ _ _ _ _ hi]
 ·rw [if_pos rfl,if_pos (by rw [cd4_size];omega)]
theorem cd4_congr {f m a f' m' a':Nat->Int} {sv:Value} (hf:∀ j,j < 16->f j=f' j) (hm:∀ j,j < 16->m j=m' j) (ha:∀ j,j < 16->a j=a' j):cd4 f m a sv=cd4 f' m' a' sv:=by
 unfold cd4
 rw [arr_congr hf,arr_congr hm,arr_congr ha]
def Cd4 (w:World) (b:Nat) (f m a:Nat->Int) (sv:Value):Prop:=w.heap[b]? = some (.cells (cd4 f m a sv) 146 (0,0))
theorem Cd4.cell {w:World} {b:Nat} {f m a:Nat->Int} {sv:Value} (h:Cd4 w b f m a sv) :
  (∀ j,j < 16->w.cell? ⟨b,j,none⟩=some (.int .i64 (f j))) /\ (∀ j,j < 16->w.cell? ⟨b,16+j,none⟩=some (.int .i64 (m j))) /\ (∀ j,j < 16->w.cell? ⟨b,32+j,none⟩=some (.int .i64 (a j))) /\ w.cell? ⟨b,48,none⟩=some sv /\ ∀ j,w.frozen? ⟨b,j,none⟩=false:=by
 have h':w.heap[b]? = some (.cells (cd4 f m a sv) 146 (0,0)):=h
 have e:=fun j => cell_of_row w b j _ 146 (0,0) h'
 exact ⟨fun j hj => by rw [e];exact cd4_f _ _ _ _ _ hj,fun j hj => by rw [e];exact cd4_m _ _ _ _ _ hj,fun j hj => by rw [e];exact cd4_a _ _ _ _ _ hj,by rw [e];exact cd4_s _ _ _ _,fun j => by simp [World.frozen?,h']⟩
theorem Cd4.setf {w:World} {b:Nat} {f m a:Nat->Int} {sv:Value} (h:Cd4 w b f m a sv) (j:Nat) (hj:j < 16) (z:Int):Cd4 (w.setCell ⟨b,j,none⟩ (.int .i64 z)) b (fun i => if i=j then z else f i) m a sv:=by
 unfold Cd4;rw [blk_set h,cd4_setf _ _ _ _ _ hj]
theorem Cd4.setm {w:World} {b:Nat} {f m a:Nat->Int} {sv:Value} (h:Cd4 w b f m a sv) (j:Nat) (hj:j < 16) (z:Int):Cd4 (w.setCell ⟨b,16+j,none⟩ (.int .i64 z)) b f (fun i => if i=j then z else m i) a sv:=by
 unfold Cd4;rw [blk_set h,cd4_setm _ _ _ _ _ hj]
theorem Cd4.seta {w:World} {b:Nat} {f m a:Nat->Int} {sv:Value} (h:Cd4 w b f m a sv) (j:Nat) (hj:j < 16) (z:Int):Cd4 (w.setCell ⟨b,32+j,none⟩ (.int .i64 z)) b f m (fun i => if i=j then z else a i) sv:=by
 unfold Cd4;rw [blk_set h,cd4_seta _ _ _ _ _ hj]
theorem Cd4.sets {w:World} {b:Nat} {f m a:Nat->Int} {sv:Value} (h:Cd4 w b f m a sv) (sw:Value):Cd4 (w.setCell ⟨b,48,none⟩ sw) b f m a sw:=by
 unfold Cd4;rw [blk_set h,cd4_sets]
theorem Cd4.congr {w:World} {b:Nat} {f m a f' m' a':Nat->Int} {sv:Value} (h:Cd4 w b f m a sv) (hf:∀ j,j < 16->f j=f' j) (hm:∀ j,j < 16->m j=m' j) (ha:∀ j,j < 16->a j=a' j):Cd4 w b f' m' a' sv:=by
 unfold Cd4;rw [<- cd4_congr hf hm ha];exact h
def st (zs:List Int):Nat->List Int
 | 0 => []
 | n+1 => st zs n ++ sa zs (n+1) zs.length
theorem st_length (zs:List Int) (n:Nat):(st zs n).length=plc zs n:=by
 induction n with
 | zero => rfl
 | succ n ih =>
  rw [st,List.length_append,ih,sa_length zs (n+1) zs.length (by omega) (Nat.le_refl _),List.take_of_length_le (Nat.le_refl _)]
  rfl
theorem st_get (zs:List Int) (N n i:Nat) (hn:0 < n) (hN:n<=N) (hi:i < cnt zs n):(st zs N).getD (plc zs (n - 1)+i) 0=sy zs n i:=by
 induction N with
 | zero => omega
 | succ N ih =>
  have hl:=sa_length zs n zs.length hn (Nat.le_refl _)
  rw [List.take_of_length_le (Nat.le_refl _)] at hl
  rw [st,List.getD_eq_getElem?_getD]
  by_cases e:n=N+1
  ·subst e
   rw [List.getElem?_append_right (by rw [st_length];simp),st_length]
   simp only [Nat.add_sub_cancel,Nat.add_sub_cancel_left]
   rfl
  ·have h1:=plc_pred zs n hn
   have h2:=plc_mono zs (show n<=N by omega)
   rw [List.getElem?_append_left (by rw [st_length];omega),<- List.getD_eq_getElem?_getD]
   exact ih (by omega)
end Go.Proofs.YthdmjmnkhlpnnabGreatDoor
namespace Go.Proofs.YthdmjmnkhlpnnabGreatDoor
open Go.RowKit
def cF (zs:List Int) (j:Nat):Int:=if 0 < cnt zs j then (fst zs j:Int) else 0
def cA (zs:List Int) (j:Nat):Int:=if j=0 then 0 else (plc zs (j - 1):Int)
theorem info46' (f m a:Nat->Int) (sv:Value):(Tryz.prog.info? 146).map (·.size)=some (cd4 f m a sv).size:=by rw [cd4_size];kernel_rfl
theorem cd4_zero:#[Value.int IntKind.i64 0,Value.int IntKind.i64 0,Value.int IntKind.i64 0,Value.int IntKind.i64 0,Value.int IntKind.i64 0,Value.int IntKind.i64 0,Value.int IntKind.i64 0,Value.int IntKind.i64 0,Value.int IntKind.i64 0,Value.int IntKind.i64 0,Value.int IntKind.i64 0,Value.int IntKind.i64 0,Value.int IntKind.i64 0,Value.int IntKind.i64 0,Value.int IntKind.i64 0,Value.int IntKind.i64 0,Value.int IntKind.i64 0,Value.int IntKind.i64 0,Value.int IntKind.i64 0,Value.int IntKind.i64 0,Value.int IntKind.i64 0,Value.int IntKind.i64 0,Value.int IntKind.i64 0,Value.int IntKind.i64 0,Value.int IntKind.i64 0,Value.int IntKind.i64 0,Value.int IntKind.i64 0,Value.int IntKind.i64 0,Value.int IntKind.i64 0,Value.int IntKind.i64 0,Value.int IntKind.i64 0,Value.int IntKind.i64 0,Value.int IntKind.i64 0,Value.int IntKind.i64 0,Value.int IntKind.i64 0,Value.int IntKind.i64 0,Value.int IntKind.i64 0,Value.int IntKind.i64 0,Value.int IntKind.i64 0,Value.int IntKind.i64 0,Value.int IntKind.i64 0,Value.int IntKind.i64 0,Value.int IntKind.i64 0,Value.int IntKind.i64 0,Value.int IntKind.i64 0,Value.int IntKind.i64 0,Value.int IntKind.i64 0,Value.int IntKind.i64 0,Value.slice none 0 0]=cd4 (fun _ => 0) (fun _ => 0) (fun _ => 0) (.slice none 0 0):=by rfl
theorem start_cd (w:World) (z:Array Value) (hz:z=cd4 (fun _ => 0) (fun _ => 0) (fun _ => 0) (.slice none 0 0)) :
  Cd4 ((w.alloc (.cells z 146)).alloc (.cells z 146)) w.heap.size (fun _ => 0) (fun _ => 0) (fun _ => 0) (.slice none 0 0) /\ Cd4 ((w.alloc (.cells z 146)).alloc (.cells z 146)) (w.heap.size+1) (fun _ => 0) (fun _ => 0) (fun _ => 0) (.slice none 0 0) /\ Below w.heap.size w ((w.alloc (.cells z 146)).alloc (.cells z 146)):=by
 subst hz
 have s1:∀ (u:World) (o:Obj),(u.alloc o).heap.size=u.heap.size+1:=fun u o => by simp
 refine ⟨?_,?_,(((Below.refl _ _).alloc (Nat.le_refl _) _).alloc (by simp) _)⟩
 ·unfold Cd4
  rw [Below.heap_alloc _ _ _ (by rw [s1];omega)]
  exact heap_alloc_new w _
 ·unfold Cd4
  have:=heap_alloc_new (w.alloc (.cells (cd4 (fun _ => 0) (fun _ => 0) (fun _ => 0) (.slice none 0 0)) 146)) (.cells (cd4 (fun _ => 0) (fun _ => 0) (fun _ => 0) (.slice none 0 0)) 146)
  rw [s1] at this
  exact this
theorem Cd4.below {w w':World} {b B:Nat} {f m a:Nat->Int} {sv:Value} (h:Cd4 w b f m a sv) (hb:Below B w w') (hl:b < B):Cd4 w' b f m a sv:=(hb.block b hl).trans h
theorem bt_first (zs:List Int) (i n:Nat) (hn:0 < n) (h:zs.getD i 0=(n:Int)) (h0:cnt (zs.take i) n=0):bt zs i=fst zs n:=by
 unfold bt
 rw [h,if_pos (by omega),Int.toNat_natCast,h0]
 rfl
theorem Kp.setX {X:TypeId} {B:Nat} {a w:World} (h:Kp X B a w) {C:Nat} {cs:Array Value} {fr:Nat × Nat} (hC:w.heap[C]? = some (.cells cs X fr)) (hB:B<=C) {q:Addr} (hq:q.block=C) (u:Value):Kp X B a (w.setCell q u) :=
 h.trans ⟨(Below.refl _ _).setCell (by omega) u,fun k cs' T fr' hk hT _ => Below.heap_setCell _ _ _ _ (fun e => by
   rw [e,hq,hC] at hk;injection hk with hk;injection hk with _ hk _;exact hT hk.symm)⟩
theorem Cd4.other {w:World} {b:Nat} {f m a:Nat->Int} {sv:Value} (h:Cd4 w b f m a sv) {q:Addr} (hq:b ≠ q.block) (u:Value):Cd4 (w.setCell q u) b f m a sv:=by
 unfold Cd4;rw [Below.heap_setCell _ _ _ _ hq];exact h
theorem Cd4.lt {w:World} {b:Nat} {f m a:Nat->Int} {sv:Value} (h:Cd4 w b f m a sv):b < w.heap.size:=(Array.getElem?_eq_some_iff.1 h).1
theorem Cd4.alloc {w:World} {b:Nat} {f m a:Nat->Int} {sv:Value} (h:Cd4 w b f m a sv) (o:Obj):Cd4 (w.alloc o) b f m a sv:=by
 unfold Cd4;rw [Below.heap_alloc _ _ _ h.lt];exact h
theorem Cd4.grown {w w':World} {b:Nat} {f m a:Nat->Int} {sv:Value} (h:Cd4 w b f m a sv) {row:Option Nat} (hg:w.grownBy w' row) (hr:some b ≠ row):Cd4 w' b f m a sv:=(hg.block b h.lt hr).trans h
theorem own_lower {w:World} {base base' n:Nat} {e size:Nat} {v:Value} {xs:List Value} (h:w.ownsRow base e size v n xs) (hb:base'<=base):w.ownsRow base' e size v n xs:=by
 obtain ⟨h1,h2⟩:=h
 refine ⟨h1,?_⟩
 rcases h2 with h2 | ⟨g,cap,cur,hv,hg,r⟩
 ·exact Or.inl h2
 ·exact Or.inr ⟨g,cap,cur,hv,by omega,r⟩
theorem own_kp46 {B:Nat} {w w':World} {base n:Nat} {v:Value} {xs:List Value} (h:w.ownsRow base 3 1 v n xs) (hk:Kp 146 B w w'):w'.ownsRow base 3 1 v n xs:=by
 obtain ⟨h1,h2⟩:=h
 refine ⟨h1,?_⟩
 rcases h2 with h2 | ⟨g,cap,cur,hv,hg,hh,r⟩
 ·exact Or.inl h2
 ·exact Or.inr ⟨g,cap,cur,hv,hg,hk.cells hh (by decide) (by decide),r⟩
structure Cst (zs:List Int) (w w1 wr:World) (n i:Nat) (sv:Value):Prop where
 res:Cd4 wr w.heap.size (fun _ => 0) (fun _ => 0) (fun _ => 0) (.slice none 0 0)
 cod:Cd4 wr (w.heap.size+1) (fun j => if j < n then cF zs j else if j=n then (if 0 < cnt (zs.take i) n then (fst zs n:Int) else 0) else 0) (fun j => if j < n then (cnt zs j:Int) else if j=n then (cnt (zs.take i) n:Int) else 0) (fun j => if j<=n then cA zs j else 0) sv
 own:wr.ownsRow w1.heap.size 3 1 sv (plc zs (n - 1)+cnt (zs.take i) n) (ivs (st zs (n - 1) ++ sa zs n i))
 kp:Kp 146 w.heap.size w1 wr
structure Cso (zs:List Int) (w w1 wr:World) (n:Nat) (sv:Value):Prop where
 res:Cd4 wr w.heap.size (fun _ => 0) (fun _ => 0) (fun _ => 0) (.slice none 0 0)
 cod:Cd4 wr (w.heap.size+1) (fun j => if j < n then cF zs j else 0) (fun j => if j < n then (cnt zs j:Int) else 0) (fun j => if j < n then cA zs j else 0) sv
 own:wr.ownsRow w1.heap.size 3 1 sv (plc zs (n - 1)) (ivs (st zs (n - 1)))
 kp:Kp 146 w.heap.size w1 wr
theorem Cso.start {zs:List Int} {w w1 wr:World} {n:Nat} {sv:Value} (h:Cso zs w w1 wr n sv) (hn:0 < n) (h15:n<=15) (hz:w.heap.size+1 < w1.heap.size):Cst zs w w1 (wr.setCell ⟨w.heap.size+1,32+n,none⟩ (.int .i64 (plc zs (n - 1):Int))) n 0 sv:=by
 refine ⟨h.res.other (by simp) _,(h.cod.seta n (by omega) _).congr (fun j _ => ?_) (fun j _ => ?_) (fun j _ => ?_),?_,h.kp.setX h.cod (by omega) rfl _⟩
 ·simp only [List.take_zero]
  split
  ·rfl
  ·split
   ·simp [cnt]
   ·rfl
 ·simp only [List.take_zero]
  split
  ·rfl
  ·split
   ·simp [cnt]
   ·rfl
 ·by_cases e:j=n
  ·subst e
   rw [if_pos rfl,if_pos (Nat.le_refl _)]
   unfold cA
   rw [if_neg (by omega)]
  ·rw [if_neg e]
   by_cases e2:j < n
   ·rw [if_pos e2,if_pos (by omega)]
   ·rw [if_neg e2,if_neg (by omega)]
 ·have:=ownsRow_setCell_below h.own (a:=⟨w.heap.size+1,32+n,none⟩) (by exact hz) (.int .i64 (plc zs (n - 1):Int))
  rw [show plc zs (n - 1)+cnt (zs.take 0) n=plc zs (n - 1) by simp [cnt],show st zs (n - 1) ++ sa zs n 0=st zs (n - 1) by simp [sa]]
  exact this
theorem Cst.skip {zs:List Int} {w w1 wr:World} {n i:Nat} {sv:Value} (h:Cst zs w w1 wr n i sv) (hi:i < zs.length) (hne:¬ zs.getD i 0=(n:Int)):Cst zs w w1 wr n (i+1) sv:=by
 have e1:cnt (zs.take (i+1)) n=cnt (zs.take i) n:=by
  rw [take_snocI zs i hi]
  by_cases h0:0 < zs.getD i 0
  ·have:=cnt_snoc (zs.take i) (zs.getD i 0) h0 n
   rw [if_neg (by omega)] at this
   omega
  ·exact cnt_skip _ _ (by omega) _
 have e2:sa zs n (i+1)=sa zs n i:=by rw [sa,if_neg hne,List.append_nil]
 refine ⟨h.res,?_,?_,h.kp⟩
 ·have:=h.cod
  simp only [e1]
  exact this
 ·rw [e1,e2];exact h.own
theorem Cst.done {zs:List Int} {w w1 wr:World} {n:Nat} {sv:Value} (h:Cst zs w w1 wr n zs.length sv) (hn:0 < n):Cso zs w w1 wr (n+1) sv:=by
 refine ⟨h.res,h.cod.congr (fun j _ => ?_) (fun j _ => ?_) (fun j _ => ?_),?_,h.kp⟩
 ·rw [List.take_of_length_le (Nat.le_refl _)]
  by_cases e:j < n
  ·rw [if_pos e,if_pos (by omega)]
  ·rw [if_neg e]
   by_cases e2:j=n
   ·subst e2;rw [if_pos rfl,if_pos (show j < j+1 by omega)];rfl
   ·rw [if_neg e2,if_neg (by omega)]
 ·rw [List.take_of_length_le (Nat.le_refl _)]
  by_cases e:j < n
  ·rw [if_pos e,if_pos (by omega)]
  ·rw [if_neg e]
   by_cases e2:j=n
   ·subst e2;rw [if_pos rfl,if_pos (by omega)]
   ·rw [if_neg e2,if_neg (by omega)]
 ·by_cases e:j<=n
  ·rw [if_pos e,if_pos (by omega)]
  ·rw [if_neg e,if_neg (by omega)]
 ·have:=h.own
  rw [List.take_of_length_le (Nat.le_refl _)] at this
  obtain ⟨m,rfl⟩:∃ m,n=m+1:=⟨n - 1,by omega⟩
  exact this
structure Csa (zs:List Int) (w w1 wr:World) (n i:Nat) (sv:Value):Prop where
 res:Cd4 wr w.heap.size (fun _ => 0) (fun _ => 0) (fun _ => 0) (.slice none 0 0)
 cod:Cd4 wr (w.heap.size+1) (fun j => if j < n then cF zs j else if j=n then (if 0 < cnt (zs.take (i+1)) n then (fst zs n:Int) else 0) else 0) (fun j => if j < n then (cnt zs j:Int) else if j=n then (cnt (zs.take (i+1)) n:Int) else 0) (fun j => if j<=n then cA zs j else 0) sv
 own:wr.ownsRow w1.heap.size 3 1 sv (plc zs (n - 1)+cnt (zs.take i) n) (ivs (st zs (n - 1) ++ sa zs n i))
 kp:Kp 146 w.heap.size w1 wr
theorem cnt_hit (zs:List Int) (n i:Nat) (hn:0 < n) (hi:i < zs.length) (h:zs.getD i 0=(n:Int)):cnt (zs.take (i+1)) n=cnt (zs.take i) n+1:=by
 rw [take_snocI zs i hi]
 have:=cnt_snoc (zs.take i) (zs.getD i 0) (by omega) n
 rw [if_pos (by omega)] at this
 omega
theorem Cst.many {zs:List Int} {w w1 wr:World} {n i:Nat} {sv:Value} (h:Cst zs w w1 wr n i sv) (hn:0 < n) (h15:n<=15) (hz:w.heap.size+1 < w1.heap.size) (hi:i < zs.length) (hh:zs.getD i 0=(n:Int)) (hc:0 < cnt (zs.take i) n) :
  Csa zs w w1 (wr.setCell ⟨w.heap.size+1,16+n,none⟩ (.int .i64 ((cnt (zs.take i) n+1:Nat):Int))) n i sv:=by
 have e:=cnt_hit zs n i hn hi hh
 refine ⟨h.res.other (by simp) _,(h.cod.setm n (by omega) _).congr (fun j _ => ?_) (fun j _ => ?_) (fun j _ => rfl),ownsRow_setCell_below h.own (a:=⟨w.heap.size+1,16+n,none⟩) (by exact hz) _,h.kp.setX h.cod (by omega) rfl _⟩
 ·rw [if_pos hc,if_pos (show 0 < cnt (zs.take (i+1)) n by omega)]
 ·by_cases e2:j=n
  ·subst e2
   rw [if_pos rfl,if_neg (by omega),if_pos rfl,e]
  ·rw [if_neg e2,if_neg e2,if_neg e2]
theorem Cst.first {zs:List Int} {w w1 wr:World} {n i:Nat} {sv:Value} (h:Cst zs w w1 wr n i sv) (hn:0 < n) (h15:n<=15) (hz:w.heap.size+1 < w1.heap.size) (hi:i < zs.length) (hh:zs.getD i 0=(n:Int)) (hc:cnt (zs.take i) n=0) :
  Csa zs w w1 ((wr.setCell ⟨w.heap.size+1,n,none⟩ (.int .i64 (fst zs n:Int))).setCell ⟨w.heap.size+1,16+n,none⟩ (.int .i64 1)) n i sv:=by
 have e:=cnt_hit zs n i hn hi hh
 have c1:=h.cod.setf n (by omega) (fst zs n:Int)
 refine ⟨(h.res.other (by simp) _).other (by simp) _,(c1.setm n (by omega) _).congr (fun j _ => ?_) (fun j _ => ?_) (fun j _ => rfl),ownsRow_setCell_below (ownsRow_setCell_below h.own (a:=⟨w.heap.size+1,n,none⟩) (by exact hz) _) (a:=⟨w.heap.size+1,16+n,none⟩) (by exact hz) _,(h.kp.setX h.cod (by omega) rfl _).setX c1 (by omega) rfl _⟩
 ·by_cases e2:j=n
  ·subst e2
   rw [if_pos rfl,if_neg (by omega),if_pos rfl,if_pos (by omega)]
  ·rw [if_neg e2,if_neg e2,if_neg e2]
 ·by_cases e2:j=n
  ·subst e2
   rw [if_pos rfl,if_neg (by omega),if_pos rfl,e,hc]
   rfl
  ·rw [if_neg e2,if_neg e2,if_neg e2]
theorem Csa.lay {zs:List Int} {w w1 wr w5:World} {n i:Nat} {sv sv':Value} (h:Csa zs w w1 wr n i sv) (hn:0 < n) (hz:w.heap.size+1 < w1.heap.size) (hi:i < zs.length) (hh:zs.getD i 0=(n:Int)) {o:Obj}
  (hg:(wr.alloc o).grownBy w5 sv.ownBlock) (ho:w5.ownsRow w1.heap.size 3 1 sv' (plc zs (n - 1)+cnt (zs.take i) n+1) (ivs (st zs (n - 1) ++ sa zs n i) ++ [.int .i64 (i:Int)])) :
  Cst zs w w1 (w5.setCell ⟨w.heap.size+1,48,none⟩ sv') n (i+1) sv':=by
 have e:=cnt_hit zs n i hn hi hh
 have hr:∀ k,k < w1.heap.size->some k ≠ sv.ownBlock:=fun k hk he => by
  have:=(h.own.lt k he.symm).1
  omega
 have hB:=h.kp.size
 have oal:(wr.alloc o).ownsRow w1.heap.size 3 1 sv (plc zs (n - 1)+cnt (zs.take i) n) (ivs (st zs (n - 1) ++ sa zs n i)):=h.own.alloc o
 have c5:=(h.cod.alloc o).grown hg (hr _ hz)
 have k5:=(h.kp.alloc (by omega) o).grownNew hg oal (Nat.le_refl _) (by omega)
 refine ⟨((h.res.alloc o).grown hg (hr _ (by omega))).other (by simp) _,c5.sets sv',?_,k5.setX c5 (by omega) rfl _⟩
 have o5:=ownsRow_setCell_below ho (a:=⟨w.heap.size+1,48,none⟩) (by exact hz) sv'
 rw [e,sa,if_pos hh,<- Nat.add_assoc,<- List.append_assoc]
 rw [show ivs (st zs (n - 1) ++ sa zs n i ++ [(i:Int)])=ivs (st zs (n - 1) ++ sa zs n i) ++ [.int .i64 (i:Int)] from List.map_append]
 exact o5
end Go.Proofs.YthdmjmnkhlpnnabGreatDoor
namespace Go.Proofs.YthdmjmnkhlpnnabGreatDoor
open Go.RowKit
theorem cell_one_at (w:World) (x:Value) (t:TypeId) (b:Nat) (hb:b=w.heap.size):∀ j u,[x][j]? = some u->(w.alloc (.cells #[x] t)).cell? (Addr.add ⟨b,0,none⟩ j)=some u:=by
 subst hb
 exact cell_one_new w x t
theorem cd4_one (f m a:Nat->Int) (o:Option Addr) (l c:Nat):(cd4 f m a (.slice o l c)).all (·.oneCell')=true:=by
 unfold cd4
 rw [Array.all_append,Array.all_append,Array.all_append,arr_one,arr_one,arr_one]
 simp [Value.oneCell']
theorem own_setRow {w:World} {base n g:Nat} {v:Value} {xs:List Value} {cs cs':Array Value} {T:TypeId} (h:w.ownsRow base 3 1 v n xs) (_:w.heap[g]? = some (.cells cs T (0,0))) (hg:g < base):(w.setRow g cs').ownsRow base 3 1 v n xs:=by
 obtain ⟨h1,h2⟩:=h
 refine ⟨h1,?_⟩
 rcases h2 with h2 | ⟨gg,cap,cur,hv,hgg,hh,r⟩
 ·exact Or.inl h2
 ·exact Or.inr ⟨gg,cap,cur,hv,hgg,(setRow_other _ _ _ _ (by omega)).trans hh,r⟩
set_option maxRecDepth 20000 in
set_option maxHeartbeats 12800000 in
theorem coder_any (ao:Option Addr) (c:Nat) (zs:List Int) (w:World) (hs:Seg w ao zs) (hm:zs.length<=320) (hok:zs.any nl=false) (hw:wt zs<=32768) :
  Calls Tryz.prog 135 #[.slice ao zs.length c] w fun e w' => ∃ sv,e = .returned (.agg (cd4 (cF zs) (fun j => cnt zs j) (cA zs) sv)) /\ w'.ownsRow w.heap.size 3 1 sv (plc zs 15) (ivs (st zs 15)) /\ Below w.heap.size w w':=by
 obtain ⟨i0,hi,hz0,hz1,hz2⟩:=info_parts info3
 have H0:=start_cd w _ cd4_zero
 have HRC:=hid (refcodes_own ao c zs _ (hs.below H0.2.2) hm hok hw)
 have HH0:=hid H0
 have HS:=hid hs
 have HOK:=hid hok
 have HZ:=hid (And.intro hi (And.intro hz0 (And.intro hz1 hz2)))
 clear hs hok hw hi hz0 hz1 hz2 H0
 go_enter Tryz.func135,Tryz.ntmps135
 go_wp2_with (go_at_call 52;refine HRC.out.mono ?_;rintro e w1 ⟨bo,bc,rfl,hown1,hb1⟩;rw [bts_length])
 have hsz:w.heap.size+1 < w1.heap.size:=by have:=hb1.size;simp at this;omega
 have hbw:Below w.heap.size w w1:=HH0.out.2.2.trans (hb1.mono (by simp;omega))
 have HBW:=hid hbw
 have HO1:=hid hown1
 have HST:Hid (Cso zs w w1 w1 1 (.slice none 0 0)):=by
  refine ⟨HH0.out.1.below hb1 (by simp;omega),(HH0.out.2.1.below hb1 (by simp)).congr (fun j _ => ?_) (fun j _ => ?_) (fun j _ => ?_),⟨rfl,Or.inl ⟨rfl,rfl⟩⟩,Kp.refl _ _ _⟩
  ·by_cases e:j < 1
   ·obtain rfl:j=0:=by omega
    rw [if_pos e];rfl
   ·rw [if_neg e]
  ·by_cases e:j < 1
   ·obtain rfl:j=0:=by omega
    rw [if_pos e];rfl
   ·rw [if_neg e]
  ·by_cases e:j < 1
   ·obtain rfl:j=0:=by omega
    rw [if_pos e];rfl
   ·rw [if_neg e]
 clear hb1 hbw hown1 HH0 HRC
 go_loopw [6] (fun iv wr => ∃ (n:Nat) (sv:Value),1<=n /\ n<=16 /\ iv = .int .i64 n /\ Hid (Cso zs w w1 wr n sv)) (fun iv _ => 16 - (intOf iv).toNat)
 case atStart => exact ⟨1,_,by omega,by omega,rfl,HST⟩
 case round =>
  clear HST
  obtain ⟨n,sv,hn1,hn16,rfl,hC⟩:=hrel
  obtain ⟨so,sc,rfl⟩:=own_shape hC.out.own
  by_cases hn:n<=15
  ·obtain ⟨-,-,ca,cs,fc⟩:=hC.out.cod.cell
   have ca':=ca n (by omega)
   have fa:=fc (32+n)
   have hpl:=plc_le zs (n - 1)
   clear ca fc
   have b15:decide ((n:Int)<=15)=true:=by simp;omega
   go_wp2
   go_loopw [7] (fun iv wi => ∃ (i:Nat) (sv:Value),i<=zs.length /\ iv = .int .i64 i /\ Hid (Cst zs w w1 wi n i sv)) (fun iv _ => zs.length - (intOf iv).toNat)
   case atStart => exact ⟨0,_,by omega,rfl,hC.out.start (by omega) hn hsz⟩
   case round =>
    clear cs ca' fa hC
    obtain ⟨i,sv2,hi,rfl,hT⟩:=hrel
    by_cases hlt:i < zs.length
    ·obtain ⟨b,off,rfl,hc⟩:=HS.out (by omega)
     obtain ⟨z,hz⟩:∃ z,z=zs.getD i 0:=⟨_,rfl⟩
     have hcw:w.cell? ⟨b,off+i,none⟩=some (.int .i64 z):=by rw [hz];exact hc i hlt
     have hbl:b < w.heap.size:=World.block_lt_of_cell? w _ hcw
     have hcell:wr.cell? ⟨b,off+i,none⟩=some (.int .i64 z):=(hT.out.kp.below.cell (p:=⟨b,off+i,none⟩) hbl).trans ((HBW.out.cell (p:=⟨b,off+i,none⟩) hbl).trans hcw)
     have HZZ:=hid hz
     clear hz hc hcw
     by_cases hzn:z=(n:Int)
     ·have HHit:Hid (zs.getD i 0=(n:Int)):=by show _=_;rw [<- HZZ.out];exact hzn
      have beq:(z == (n:Int))=true:=beq_iff_eq.2 hzn
      obtain ⟨N2,hN2⟩:∃ N2,N2=plc zs (n - 1)+cnt (zs.take i) n:=⟨_,rfl⟩
      obtain ⟨so2,sc2,rfl⟩:=own_shape hT.out.own
      have hN3:N2<=700:=by have:=cnt_le (zs.take i) n;simp at this;omega
      obtain ⟨cf,cm,-,cs,fc⟩:=hT.out.cod.cell
      have cm':=cm n (by omega)
      rw [if_neg (by omega),if_pos rfl] at cm'
      have cf':=cf n (by omega)
      have ff:=fc n
      have fm:=fc (16+n)
      have fs:=fc 48
      obtain ⟨x,hx⟩:∃ x,x=cnt (zs.take i) n:=⟨_,rfl⟩
      rw [<- hx] at cm'
      have hxl:x<=320:=by rw [hx];have:=cnt_le (zs.take i) n;simp at this;omega
      rw [<- hN2] at cs
      have HN2:=hid hN2
      have HX:=hid hx
      clear cf cm fc hN2 hx hzn
      by_cases hx0:x=0
      ·have bx:((x:Int) == 0)=true:=beq_iff_eq.2 (by omega)
       obtain ⟨bo',bc',he,hsegb⟩:=owns_seg (own_kp46 HO1.out hT.out.kp)
       injection he with e1 e2 e3
       subst e1 e3
       clear e2
       obtain ⟨bb,boff,rfl,hbc⟩:=hsegb (by rw [bts_length];omega)
       have cb:=hbc i (by rw [bts_length];exact hlt)
       rw [bts_getD zs i hlt,bt_first zs i n (by omega) HHit.out (by rw [<- HX.out];exact hx0)] at cb
       have HA:Hid (Csa zs w w1 ((wr.setCell ⟨w.heap.size+1,n,none⟩ (.int .i64 (fst zs n:Int))).setCell ⟨w.heap.size+1,16+n,none⟩ (.int .i64 1)) n i (.slice so2 N2 sc2)):=by
        have:=hT.out.first (by omega) hn hsz hlt HHit.out (by rw [<- HX.out];exact hx0)
        rw [HN2.out];exact this
       clear hbc
       obtain ⟨L2,hL2⟩:∃ L2,L2=ivs (st zs (n - 1) ++ sa zs n i):=⟨_,rfl⟩
       have HOW:Hid (World.ownsRow ((wr.setCell ⟨w.heap.size+1,n,none⟩ (.int .i64 (fst zs n:Int))).setCell ⟨w.heap.size+1,16+n,none⟩ (.int .i64 1)) w1.heap.size 3 1 (.slice so2 N2 sc2) N2 L2):=by
        have:=HA.out.own;rw [<- HN2.out,<- hL2] at this;exact this
       have HL2:=hid hL2
       have hszr:=hT.out.kp.size
       clear hL2
       subst hx0
       go_wp2_with (at_builtin;refine wpList_append_lies _ rfl (.tmp 55) (.tmp 57) 23 rfl w1.heap.size 3 i0 (.int .i64 0) 1 8 Tryz.underlying23 HZ.out.1 HZ.out.2.1 HZ.out.2.2.1 HZ.out.2.2.2 rfl (by decide) (.slice so2 N2 sc2) N2 L2 rfl (HOW.out.alloc _) ⟨_,0,none⟩ 1 1 [.int .i64 (i:Int)] rfl rfl (cell_one_at _ _ _ _ (by simp [World.setCell])) ?c2 (by decide) ?c3 ?c4 ?c5 _ rfl ?_)
       case c2 => first | rfl | (intro u hu;simp at hu;subst hu;rfl)
       case c3 => first | omega | (unfold maxLen;omega)
       case c4 => omega
       case c5 => first | omega | (simp [World.setCell];omega)
       intro g cap w5 hown hgrow hat hlt5
       have HNX:Hid (Cst zs w w1 (w5.setCell ⟨w.heap.size+1,48,none⟩ (.slice (some ⟨g,0,none⟩) (N2+1) cap)) n (i+1) (.slice (some ⟨g,0,none⟩) (N2+1) cap)):=by
        refine HA.out.lay (by omega) hsz hlt HHit.out hgrow ?_
        rw [<- HN2.out,<- HL2.out];exact hown
       have hr5:∀ k,k < w1.heap.size->some k ≠ (Value.slice so2 N2 sc2).ownBlock:=fun k hk he => by
        have:=(HOW.out.lt k he.symm).1
        omega
       have c5:=((HA.out.cod.alloc _).grown hgrow (hr5 _ hsz)).cell
       have s5:=c5.2.2.2.1
       have f5:=c5.2.2.2.2 48
       clear hgrow hat hlt5 c5 hown hr5
       go_wp2
       exact ⟨⟨i+1,_,by omega,by go_num,HNX⟩,by simp [intOf];omega⟩
      ·have bx:((x:Int) == 0)=false:=beq_eq_false_iff_ne.2 (by omega)
       have HA:Hid (Csa zs w w1 (wr.setCell ⟨w.heap.size+1,16+n,none⟩ (.int .i64 ((x:Int)+1))) n i (.slice so2 N2 sc2)):=by
        have:=hT.out.many (by omega) hn hsz hlt HHit.out (by rw [<- HX.out];omega)
        rw [<- HN2.out,<- HX.out] at this
        exact this
       obtain ⟨L2,hL2⟩:∃ L2,L2=ivs (st zs (n - 1) ++ sa zs n i):=⟨_,rfl⟩
       have HOW:Hid (World.ownsRow (wr.setCell ⟨w.heap.size+1,16+n,none⟩ (.int .i64 ((x:Int)+1))) w1.heap.size 3 1 (.slice so2 N2 sc2) N2 L2):=by
        have:=HA.out.own;rw [<- HN2.out,<- hL2] at this;exact this
       have HL2:=hid hL2
       have hszr:=hT.out.kp.size
       clear hL2
       go_wp2_with (at_builtin;refine wpList_append_lies _ rfl (.tmp 55) (.tmp 57) 23 rfl w1.heap.size 3 i0 (.int .i64 0) 1 8 Tryz.underlying23 HZ.out.1 HZ.out.2.1 HZ.out.2.2.1 HZ.out.2.2.2 rfl (by decide) (.slice so2 N2 sc2) N2 L2 rfl (HOW.out.alloc _) ⟨_,0,none⟩ 1 1 [.int .i64 (i:Int)] rfl rfl (cell_one_at _ _ _ _ (by simp [World.setCell])) ?c2 (by decide) ?c3 ?c4 ?c5 _ rfl ?_)
       case c2 => first | rfl | (intro u hu;simp at hu;subst hu;rfl)
       case c3 => first | omega | (unfold maxLen;omega)
       case c4 => omega
       case c5 => first | omega | (simp [World.setCell];omega)
       intro g cap w5 hown hgrow hat hlt5
       have HNX:Hid (Cst zs w w1 (w5.setCell ⟨w.heap.size+1,48,none⟩ (.slice (some ⟨g,0,none⟩) (N2+1) cap)) n (i+1) (.slice (some ⟨g,0,none⟩) (N2+1) cap)):=by
        refine HA.out.lay (by omega) hsz hlt HHit.out hgrow ?_
        rw [<- HN2.out,<- HL2.out];exact hown
       have hr5:∀ k,k < w1.heap.size->some k ≠ (Value.slice so2 N2 sc2).ownBlock:=fun k hk he => by
        have:=(HOW.out.lt k he.symm).1
        omega
       have c5:=((HA.out.cod.alloc _).grown hgrow (hr5 _ hsz)).cell
       have s5:=c5.2.2.2.1
       have f5:=c5.2.2.2.2 48
       clear hgrow hat hlt5 c5 hown hr5
       go_wp2
       exact ⟨⟨i+1,_,by omega,by go_num,HNX⟩,by simp [intOf];omega⟩
     ·have bne:(z == (n:Int))=false:=beq_eq_false_iff_ne.2 hzn
      have HNX:Hid (Cst zs w w1 wr n (i+1) sv2):=hT.out.skip hlt (by rw [<- HZZ.out];exact hzn)
      go_wp2
      exact ⟨⟨i+1,sv2,by omega,by go_num,HNX⟩,by simp [intOf];omega⟩
    ·obtain rfl:i=zs.length:=by omega
     have HD:=hid (hT.out.done (by omega))
     go_wp2
     exact ⟨⟨n+1,sv2,by omega,by omega,by go_num,HD⟩,by simp [intOf];omega⟩
  ·obtain rfl:n=16:=by omega
   have hcod:=hC.out.cod.congr (f':=cF zs) (m':=fun j => (cnt zs j:Int)) (a':=cA zs) (fun j hj => by rw [if_pos hj]) (fun j hj => by rw [if_pos hj]) (fun j hj => by rw [if_pos hj])
   have HCo:=hid hcod
   have HRe:=hid hC.out.res
   have HOW:Hid (wr.ownsRow w1.heap.size 3 1 (.slice so (plc zs 15) sc) (plc zs 15) (ivs (st zs 15))):=hC.out.own
   have HKP:=hid hC.out.kp
   clear hcod hC
   go_wp2_with (first | (refine wpList_load_row rfl 146 _ rfl (w.heap.size+1) rfl 146 (cd4 (cF zs) (fun j => (cnt zs j:Int)) (cA zs) (.slice so (plc zs 15) sc)) (0,0) _ (by exact HCo.out) Tryz.underlying146 rfl (info46' _ _ _ _) ?_) | (refine wpList_store_row rfl 146 _ _ rfl w.heap.size (cd4 (cF zs) (fun j => (cnt zs j:Int)) (cA zs) (.slice so (plc zs 15) sc)) rfl rfl 146 _ (by exact HRe.out) (info46' _ _ _ _) (by rw [cd4_size,cd4_size]) (cd4_one _ _ _ _ _ _) ?_))
   have hbr:Below w.heap.size w wr:=HBW.out.trans (HKP.out.below.mono (Nat.le_refl _))
   have hH:=setRow_heap wr w.heap.size _ (cd4 (cF zs) (fun j => (cnt zs j:Int)) (cA zs) (.slice so (plc zs 15) sc)) 146 _ HRe.out
   refine bodyPost_ret (v:=.agg (cd4 (cF zs) (fun j => (cnt zs j:Int)) (cA zs) (.slice so (plc zs 15) sc))) (results_cell_row Tryz.results135 _ _ w.heap.size 146 _ (0,0) _ rfl hH Tryz.underlying146 rfl (info46' _ _ _ _)) rfl ⟨_,rfl,?_,below_row hbr (Nat.le_refl _) _⟩
   exact own_lower (own_setRow HOW.out HRe.out (by omega)) (by omega)
end Go.Proofs.YthdmjmnkhlpnnabGreatDoor
namespace Go.Proofs.YthdmjmnkhlpnnabGreatDoor
open Go.RowKit
theorem full_any (ao:Option Addr) (c:Nat) (zs:List Int) (w:World) (hs:Seg w ao zs) (hm:zs.length<=320) (hok:zs.any nl=false) :
  Calls Tryz.prog 138 #[.slice ao zs.length c] w fun e w' => e = .returned (.bool (decide (wt zs=32768))) /\ w=w':=by
 have HW:=hid (refweight_any ao c zs w hs hm hok)
 clear hs hok
 obtain ⟨x,hx⟩:∃ x,x=wt zs:=⟨_,rfl⟩
 rw [<- hx] at HW
 rw [<- hx]
 clear hx
 go_enter Tryz.func138,Tryz.ntmps138
 go_wp2_with (first | (go_at_call 95;refine HW.out.mono ?_;rintro e w' ⟨rfl,rfl⟩) | (go_at_call 96;refine (power_any 15 _ (by omega) (by omega)).mono ?_;rintro e w' ⟨rfl,rfl⟩))
 go_ret
 refine ⟨?_,rfl⟩
 have e1:((2 ^ (15:Int).toNat:Nat):Int)=32768:=by decide
 by_cases h:x=32768
 ·subst h;rfl
 ·have h1:((x:Int) == 32768)=false:=by rw [beq_eq_false_iff_ne];omega
  simp [h,h1]
  first | done | omega
def sm:List Int->Int
 | [] => 0
 | z :: zs => z+sm zs
theorem sm_take_succ (zs:List Int) (i:Nat) (h:i < zs.length):sm (zs.take (i+1))=sm (zs.take i)+zs.getD i 0:=by
 induction zs generalizing i with
 | nil => simp at h
 | cons z zs ih =>
  cases i with
  | zero => simp [sm]
  | succ i =>
   rw [List.take_succ_cons,List.take_succ_cons,sm,sm,ih i (by simpa using h)]
   simp
   omega
theorem sm_bound (zs:List Int) (hok:zs.any nl=false):0<=sm zs /\ sm zs<=15*zs.length:=by
 induction zs with
 | nil => simp [sm]
 | cons z zs ih =>
  simp only [List.any_cons,Bool.or_eq_false_iff] at hok
  have:=ih hok.2
  have h1:=hok.1
  simp [nl] at h1
  simp [sm]
  omega
set_option maxHeartbeats 800000 in
theorem sum_any (ao:Option Addr) (c:Nat) (zs:List Int) (w:World) (hs:Seg w ao zs) (hm:zs.length<=320) (hok:zs.any nl=false) :
  Calls Tryz.prog 140 #[.slice ao zs.length c] w fun e w' => e = .returned (.int .i64 (sm zs)) /\ w=w':=by
 have HS:=hid hs
 have HOK:=hid hok
 clear hs hok
 go_enter Tryz.func140,Tryz.ntmps140
 go_wp2
 go_loop [3,4] (fun t i => ∃ (k:Nat) (q:Int),k<=zs.length /\ i = .int .i64 k /\ Hid (q=sm (zs.take k)) /\ 0<=q /\ q<=15*k /\ t = .int .i64 q) (fun _ i => zs.length - (intOf i).toNat)
 case atStart => exact ⟨0,0,by omega,rfl,rfl,by omega,by omega,rfl⟩
 case round =>
  obtain ⟨k,q,hk,rfl,HQ,hq0,hq,rfl⟩:=hrel
  by_cases hlt:k < zs.length
  ·obtain ⟨b,off,rfl,hc⟩:=HS.out (by omega)
   obtain ⟨z,hz⟩:∃ z,z=zs.getD k 0:=⟨_,rfl⟩
   have hcell:w.cell? ⟨b,off+k,none⟩=some (.int .i64 z):=by rw [hz];exact hc k hlt
   have hzb:=ok_getD HOK.out k
   rw [<- hz] at hzb
   have HZ:Hid (z=zs.getD k 0):=hz
   clear hz hc
   have w1:IntKind.i64.wrap (q+z)=q+z:=by rw [IntKind.wrap_i64];omega
   go_wp2
   go_round
   case rel => exact ⟨k+1,q+z,by omega,by go_num,by show _=_;rw [sm_take_succ zs k hlt,<- HZ.out,HQ.out],by omega,by omega,rfl⟩
   case measure => simp [intOf];omega
  ·obtain rfl:k=zs.length:=by omega
   go_wp2
   go_ret
   refine ⟨ret_int ?_,rfl⟩
   show q=_
   rw [HQ.out,List.take_length]
end Go.Proofs.YthdmjmnkhlpnnabGreatDoor
namespace Go.Proofs.YthdmjmnkhlpnnabGreatDoor
open Go.RowKit
theorem rcnt_cons (z:Int) (zs:List Int) (n:Nat) (h:1<=n):cnt (z :: zs) n=cnt zs n+(if z=(n:Int) then 1 else 0):=by
 unfold cnt
 rw [if_neg (by omega),if_neg (by omega),List.count_cons]
 by_cases e:z=(n:Int)
 ·simp [e]
 ·simp [e]
theorem rplc_cons (z:Int) (zs:List Int) (n:Nat):plc (z :: zs) n=plc zs n+(if 1<=z /\ z<=(n:Int) then 1 else 0):=by
 induction n with
 | zero =>
  rw [if_neg (by omega)]
  rfl
 | succ n ih =>
  rw [plc,plc,ih,rcnt_cons z zs (n+1) (by omega)]
  by_cases h1:z=((n+1:Nat):Int)
  ·rw [if_neg (by omega),if_pos h1,if_pos (by omega)];omega
  ·by_cases h2:1<=z /\ z<=(n:Int)
   ·rw [if_pos h2,if_neg h1,if_pos (by omega)];omega
   ·rw [if_neg h2,if_neg h1,if_neg (by omega)];omega
theorem sm_plc (zs:List Int) (hok:zs.any nl=false):cnt zs 1<=plc zs 15 /\ (plc zs 15:Int)<=sm zs /\ (plc zs 15=0->sm zs=0) /\ (plc zs 15=1->cnt zs 1=1->sm zs=1) /\ (sm zs=1->cnt zs 1=1):=by
 induction zs with
 | nil => exact ⟨by decide,by decide,fun _ => rfl,fun h => absurd h (by decide),fun h => absurd h (by decide)⟩
 | cons z zs ih =>
  simp only [List.any_cons,Bool.or_eq_false_iff] at hok
  have h:=ih hok.2
  have h1:=hok.1
  simp [nl] at h1
  rw [rplc_cons,rcnt_cons z zs 1 (by omega),sm]
  by_cases e0:z=0
  ·rw [if_neg (by omega),if_neg (by omega),e0]
   omega
  ·rw [if_pos (show 1<=z /\ z<=((15:Nat):Int) by omega)]
   by_cases e1:z=((1:Nat):Int)
   ·rw [if_pos e1]
    omega
   ·rw [if_neg e1]
    omega
theorem mayL_sm (zs:List Int) (hok:zs.any nl=false):mayL zs=(decide (wt zs=32768) || decide (sm zs=1)):=by
 have h:=sm_plc zs hok
 unfold mayL
 congr 1
 rw [<- Bool.decide_and]
 apply decide_eq_decide.2
 constructor
 ·rintro ⟨a,b⟩;exact h.2.2.2.1 a b
 ·intro a
  have:=h.2.2.2.2 a
  omega
theorem mayS_sm (zs:List Int) (hok:zs.any nl=false):mayS zs=(decide (wt zs=32768) || decide (sm zs<=1)):=by
 have h:=sm_plc zs hok
 have hb:=sm_bound zs hok
 unfold mayS
 rw [mayL_sm zs hok,Bool.or_assoc]
 congr 1
 rw [<- Bool.decide_or]
 apply decide_eq_decide.2
 constructor
 ·rintro (a | a)
  ·omega
  ·have:=h.2.2.1 a;omega
 ·intro a
  omega
end Go.Proofs.YthdmjmnkhlpnnabGreatDoor
