import Derived.Test.YthdmjmnkhlpnnabGreatDoorZ03
import Derived.Test.YthdmjmnkhlpnnabGreatDoorZ02
namespace Go.Proofs.YthdmjmnkhlpnnabGreatDoor
open Go.RowKit
theorem Cod.kp {X:TypeId} {B:Nat} {w w':World} {b:Nat} {zs:List Int} (h:Cod w b zs) (hk:Kp X B w w') (hX:X=90 ∨ X=143):Cod w' b zs:=by
 obtain ⟨g,R,h1,h2,h3⟩:=h
 refine ⟨g,R,hk.cells h1 ?_ (by decide),hk.cells h2 ?_ (by decide),h3⟩ <;> rcases hX with rfl | rfl <;> decide
theorem Cod.lt {w:World} {b:Nat} {zs:List Int} (h:Cod w b zs):b < w.heap.size:=by
 obtain ⟨g,R,h1,-,-⟩:=h
 exact (Array.getElem?_eq_some_iff.1 h1).1
theorem Cod.drew {w:World} {b:Nat} {zs:List Int} (h:Cod w b zs):Cod w.drew b zs:=h
theorem Cod.drewN {w:World} {b:Nat} {zs:List Int} (h:Cod w b zs) (n:Nat):Cod (w.drewN n) b zs:=h
theorem Cod.below {w w':World} {b:Nat} {zs:List Int} (h:Cod w b zs) (hb:Below w.heap.size w w'):Cod w' b zs:=by
 obtain ⟨g,R,h1,h2,h3⟩:=h
 exact ⟨g,R,(hb.block b (Array.getElem?_eq_some_iff.1 h1).1).trans h1,(hb.block g (Array.getElem?_eq_some_iff.1 h2).1).trans h2,h3⟩
def Found (B:Nat) (s:ByteArray) (tv:Value) (t:List UInt8) (M:Int) (fx:Option Addr) (r:Rs) (w:World) (e:Ending) (w':World):Prop :=
 match r with
 | .ok v q => e = .returned (.tuple #[.int .i64 v,.bool true]) /\ Rd w' B s q tv t M fx /\ Kp 90 B w w'
 | .no 4 => e = .returned (.tuple #[.int .i64 0,.bool false]) /\ (∃ p',Rd w' B s p' tv t M fx) /\ Kp 90 B w w'
 | .no k => Gave B s tv t M fx k w e w'
theorem or_bit (a b:Nat) (ha:a<=65536) (hb:b < 2):bits .or .i64 ((a:Int)*2) (b:Int)=((2*a+b:Nat):Int):=by
 have e2:(2:Nat) ^ 62=4611686018427387904:=by decide
 have h:=(bits_nat .i64 62 (by decide) wraps_i64 (a*2) b (by omega) (by omega)).2
 have e3:a*2 ||| b=2*a+b:=by
  have:=Nat.two_pow_add_eq_or_of_lt (i:=1) (b:=b) (by omega) a
  rw [Nat.pow_one] at this
  rw [Nat.mul_comm,<- this]
 rw [e3] at h
 have e4:((a*2:Nat):Int)=(a:Int)*2:=by omega
 rw [e4] at h
 exact h
theorem symF_end (zs:List Int) (s:ByteArray) (f n ab p:Nat) (h:¬ p < 8*s.size):symF zs s (f+1) n ab p = .no 1:=by rw [symF,if_neg h]
theorem symF_hit (zs:List Int) (s:ByteArray) (f n ab p:Nat) (h:p < 8*s.size) (h2:2*ab+bitAt s p < cnt zs (n+1)):symF zs s (f+1) n ab p = .ok (sy zs (n+1) (2*ab+bitAt s p)) (p+1):=by rw [symF,if_pos h,if_pos h2]
theorem symF_miss (zs:List Int) (s:ByteArray) (f n ab p:Nat) (h:p < 8*s.size) (h2:¬ 2*ab+bitAt s p < cnt zs (n+1)):symF zs s (f+1) n ab p=symF zs s f (n+1) (2*ab+bitAt s p - cnt zs (n+1)) (p+1):=by rw [symF,if_pos h,if_neg h2]
set_option maxRecDepth 20000 in
set_option maxHeartbeats 1600000 in
theorem find_any (w:World) (B:Nat) (s:ByteArray) (p:Nat) (tv:Value) (t:List UInt8) (M:Int) (fx:Option Addr) (b:Nat) (zs:List Int) (h:Rd w B s p tv t M fx) (hc:Cod w b zs) (hm:zs.length<=320) :
  Calls Tryz.prog 170 #[.pointer (some ⟨b,0,none⟩),.func (.func 77) #[.pointer (some ⟨B,0,none⟩)] #[]] w fun e w' => Found B s tv t M fx (sym zs s p) w e w':=by
 have HR:=hid h
 have HC:=hid hc
 have hfit:=h.fit
 clear h hc
 go_enter Tryz.func170,Tryz.ntmps170
 go_wp2
 go_loopw [6,7,15] (fun va vs vi wr => ∃ k ab q:Nat,k<=15 /\ ab < 2 ^ k /\ q<=8*s.size /\ vi = .int .i64 k /\ va = .int .i64 ab /\ vs = .int .i64 (plc zs k) /\ Hid (sym zs s p=symF zs s (15 - k) k ab q) /\ Hid (Rd wr B s q tv t M fx) /\ Kp 90 B w wr) (fun _ _ i _ => 15 - (intOf i).toNat)
 case atStart => exact ⟨0,0,p,by omega,by omega,hfit,rfl,rfl,rfl,rfl,HR,Kp.refl _ _ _⟩
 case round =>
  obtain ⟨k,ab,q,hk,hab,hq,rfl,rfl,rfl,hS,hr,hK⟩:=hrel
  have hpw:2 ^ k<=2 ^ 15:=Nat.pow_le_pow_right (by omega) hk
  have hpe:(2:Nat) ^ 15=32768:=by decide
  have habb:ab < 32768:=by omega
  have hps:2 ^ (k+1)=2*2 ^ k:=by rw [Nat.pow_succ];omega
  have hpl:=plc_le zs k
  by_cases hlt:k < 15
  ·obtain ⟨g,R,hb,hR,hSo⟩:=(HC.out.kp hK (.inl rfl))
   obtain ⟨-,cp,-,-⟩:=cdc_cell hb
   obtain ⟨y,hy⟩:∃ y:Nat,y=cnt zs (k+1):=⟨_,rfl⟩
   obtain ⟨x,hx⟩:∃ x:Nat,x=plc zs k:=⟨_,rfl⟩
   obtain ⟨N,hN⟩:∃ N:Nat,N=plc zs 15:=⟨_,rfl⟩
   rw [<- hN] at hb
   have hxy:x+y<=N:=by rw [hx,hy,hN];exact plc_mono zs (show k+1<=15 by omega)
   have hN3:N<=320:=by rw [hN];exact Nat.le_trans (plc_le zs 15) hm
   have hcy:wr.cell? ⟨b,2+k,none⟩=some (.int .i64 y):=by have:=cp (k+1) (by omega);rw [hy,show 2+k=1+(k+1) by omega];exact this
   have HY:=hid hy
   have HX:=hid hx
   have hf:15 - k=(15 - (k+1))+1:=by omega
   have HF:=hid hf
   have HPS:=hid hps
   have HB:=hid hb
   have HRo:=hid hR
   have HRl:Hid (R.length=N):=by show _=_;rw [hN];exact hSo.1
   have HSo:=hid hSo
   rw [<- hx]
   clear cp hb hy hx hN hf hps hpe hpw hpl hR hSo
   by_cases hbit:q < 8*s.size
   ·obtain ⟨d,hd⟩:∃ d,d=bitAt s q:=⟨_,rfl⟩
    have hd2:d < 2:=by rw [hd];exact bitAt_lt _ _
    have hor:=or_bit ab d (by omega) hd2
    have HD:=hid hd
    clear hd
    by_cases hhit:2*ab+d < y
    ·have hdec:decide (2*(ab:Int)+(d:Int) < (y:Int))=true:=by simp;omega
     have i0:(0:Int)<=(x:Int)+(2*(ab:Int)+(d:Int)):=by omega
     have i1:(x:Int)+(2*(ab:Int)+(d:Int)) < (N:Int):=by omega
     have i2:((x:Int)+(2*(ab:Int)+(d:Int))).toNat=x+(2*ab+d):=by omega
     have HSY:Hid (R.getD (x+(2*ab+d)) 0=sy zs (k+1) (2*ab+d)):=by
      have:=HSo.out.2 (k+1) (2*ab+d) (by omega) (by omega) (by rw [List.take_of_length_le (Nat.le_refl _),<- HY.out];exact hhit)
      show _=_
      rw [HX.out]
      exact this
     go_wp2_with (go_at_call 77;refine (next_ok _ _ _ _ _ _ _ _ hr.out hbit).mono ?_;rintro e w' ⟨rfl,hr1,hk1⟩;rw [<- HD.out];have m17:w'.cell? ⟨b,17,none⟩=some (.slice (some ⟨g,0,none⟩) N N):=(cdc_cell (hk1.cells HB.out (by decide) (by decide))).2.2.1;have ms:w'.cell? ⟨g,x+(2*ab+d),none⟩=some (.int .i64 (R.getD (x+(2*ab+d)) 0)):=Row.cell (hk1.cells HRo.out (by decide) (by decide)) (by rw [HRl.out];omega))
     go_ret2
     rw [show sym zs s p = .ok (sy zs (k+1) (2*ab+d)) (q+1) by rw [hS.out,HF.out,symF_hit zs s _ k ab q hbit (by rw [<- HD.out,<- HY.out];exact hhit),<- HD.out]]
     refine ⟨?_,hr1,hK.trans hk1⟩
     rw [<- HSY.out,List.getD_eq_getElem?_getD]
     rfl
    ·have hdec:decide (2*(ab:Int)+(d:Int) < (y:Int))=false:=by simp;omega
     go_wp2_with (go_at_call 77;refine (next_ok _ _ _ _ _ _ _ _ hr.out hbit).mono ?_;rintro e w' ⟨rfl,hr1,hk1⟩;rw [<- HD.out])
     have h1:=HPS.out
     refine ⟨⟨k+1,2*ab+d - y,q+1,by omega,by omega,by omega,by go_num,int_eq (by omega),?_,?_,hr1,hK.trans hk1⟩,by simp [intOf];omega⟩
     ·refine int_eq ?_
      have h2:=HX.out
      have h3:=HY.out
      simp only [plc]
      omega
     ·show _=_
      rw [hS.out,HF.out,symF_miss zs s _ k ab q hbit (by rw [<- HD.out,<- HY.out];exact hhit),<- HD.out,<- HY.out]
   ·go_wp2_with (go_at_call 77;refine (next_no _ _ _ _ _ _ _ _ hr.out hbit).mono ?_;rintro e w' ⟨rfl,hr1,hk1⟩)
    rw [show sym zs s p = .no 1 by rw [hS.out,HF.out,symF_end zs s _ k ab q hbit]]
    exact ⟨rfl,rfl,hr1,hK.trans hk1⟩
  ·obtain rfl:k=15:=by omega
   go_wp2
   go_ret2
   rw [show sym zs s p = .no 4 by rw [hS.out];rfl]
   exact ⟨rfl,⟨_,hr.out⟩,hK⟩
def Told (B:Nat) (s:ByteArray) (tv:Value) (t:List UInt8) (M:Int) (fx:Option Addr) (r:Rs) (w:World) (e:Ending) (w':World):Prop :=
 match r with
 | .ok v q => e = .returned (.int .i64 v) /\ Rd w' B s q tv t M fx /\ Kp 90 B w w'
 | .no k => Gave B s tv t M fx k w e w'
set_option maxHeartbeats 800000 in
theorem symbol_any (w:World) (B:Nat) (s:ByteArray) (p:Nat) (tv:Value) (t:List UInt8) (M:Int) (fx:Option Addr) (b:Nat) (zs:List Int) (h:Rd w B s p tv t M fx) (hc:Cod w b zs) (hm:zs.length<=320) :
  Calls Tryz.prog 126 #[.pointer (some ⟨B,0,none⟩),.pointer (some ⟨b,0,none⟩)] w fun e w' => Told B s tv t M fx (sym zs s p) w e w':=by
 have hmf:∀ (fn:Fn) (first cap:Array Value) (w:World),(Instr.makeFunc fn first cap).run Tryz.prog w = .ok (.func fn first cap) w:=fun _ _ _ _ => rfl
 have hf:=find_any w B s p tv t M fx b zs h hc hm
 clear h hc
 cases hr:sym zs s p with
 | ok v q =>
  rw [hr] at hf
  have HF:=hid hf
  clear hf hr
  go_enter Tryz.func126,Tryz.ntmps126
  go_wp2_with (go_at_call 170;refine HF.out.mono ?_;rintro e w' ⟨rfl,hr1,hk1⟩)
  go_ret
  exact ⟨rfl,hr1,hk1⟩
 | no k =>
  rcases symF_no _ _ _ _ _ _ _ hr with rfl | rfl
  ·rw [hr] at hf
   have HF:=hid hf
   clear hf hr
   go_enter Tryz.func126,Tryz.ntmps126
   go_wp2_with (go_at_call 170;refine HF.out.mono ?_;rintro e w' ⟨rfl,hr1,hk1⟩)
   exact ⟨rfl,rfl,hr1,hk1⟩
  ·rw [hr] at hf
   have HF:=hid hf
   clear hf hr
   go_enter Tryz.func126,Tryz.ntmps126
   go_wp2_with (first | (go_at_call 170;refine HF.out.mono ?_;rintro e w' ⟨rfl,hr1,hk1⟩) | (go_at_call 82;refine (give_any _ _).mono ?_;rintro e w' ⟨rfl,rfl⟩))
   exact ⟨rfl,rfl,hr1,hk1⟩
end Go.Proofs.YthdmjmnkhlpnnabGreatDoor
namespace Go.Proofs.YthdmjmnkhlpnnabGreatDoor
open Go.RowKit
def spn (k g:Nat):Nat × Nat:=if k < g then (k,0) else ((g+k % g)*2 ^ (k / g - 1),k / g - 1)
def agn (k:Nat):Nat × Nat:=if k=28 then (258,0) else ((spn k 4).1+3,(spn k 4).2)
def bck (k:Nat):Nat × Nat:=((spn k 2).1+1,(spn k 2).2)
def tms (k:Nat):Nat × Nat:=if k=16 then (3,2) else if k=17 then (3,3) else if k=18 then (11,7) else (1,0)
theorem agn_le (k:Nat) (h:k<=28):3<=(agn k).1 /\ (agn k).1+2 ^ (agn k).2<=259 /\ (agn k).2<=5:=by
 have:∀ k,k<=28->3<=(agn k).1 /\ (agn k).1+2 ^ (agn k).2<=259 /\ (agn k).2<=5:=by decide
 exact this k h
theorem bck_le (k:Nat) (h:k<=29):1<=(bck k).1 /\ (bck k).1<=24577 /\ (bck k).2<=13:=by
 have:∀ k,k<=29->1<=(bck k).1 /\ (bck k).1<=24577 /\ (bck k).2<=13:=by decide
 exact this k h
theorem tms_le (k:Nat):1<=(tms k).1 /\ (tms k).1<=11 /\ (tms k).2<=7:=by
 unfold tms
 split
 ·decide
 ·split
  ·decide
  ·split <;> decide
theorem spn_small (k g:Nat) (hg:g=2 ∨ g=4) (hk:k<=29):(spn k g).1<=24576 /\ (spn k g).2<=13:=by
 have h2:∀ k,k<=29->(spn k 2).1<=24576 /\ (spn k 2).2<=13:=by decide
 have h4:∀ k,k<=29->(spn k 4).1<=24576 /\ (spn k 4).2<=13:=by decide
 rcases hg with rfl | rfl
 ·exact h2 k hk
 ·exact h4 k hk
set_option maxHeartbeats 800000 in
theorem span_two (k:Nat) (hk:k<=29) (w:World) :
  Calls Tryz.prog 158 #[.int .i64 k,.int .i64 2] w fun e w' => e = .returned (.agg #[.int .i64 (spn k 2).1,.int .i64 (spn k 2).2]) /\ Below w.heap.size w w':=by
 have hb:=spn_small k 2 (by omega) hk
 by_cases hlt:k < 2
 ·have e:spn k 2=(k,0):=by unfold spn;rw [if_pos hlt]
  rw [e]
  clear hb e
  go_enter Tryz.func158,Tryz.ntmps158
  go_wp2
  exact bodyPost_ret (v:=.agg #[.int .i64 k,.int .i64 0]) (by simp [results,Tryz.results158,go_sem]) rfl ⟨rfl,(Below.refl _ _).alloc (Nat.le_refl _) _⟩
 ·have e:spn k 2=((2+k % 2)*2 ^ (k / 2 - 1),k / 2 - 1):=by unfold spn;rw [if_neg hlt]
  rw [e] at hb ⊢
  have hq0:0<=(k:Int) / 2 - 1:=by omega
  have hq1:(k:Int) / 2 - 1<=63:=by omega
  have hq2:((k:Int) / 2 - 1).toNat=k / 2 - 1:=by omega
  obtain ⟨z,hz⟩:∃ z:Nat,z=(2+k % 2)*2 ^ (k / 2 - 1):=⟨_,rfl⟩
  have hz2:((2:Int)+(k:Int) % 2)*2 ^ (k / 2 - 1)=(z:Int):=by rw [hz];push_cast;rfl
  rw [<- hz] at hb ⊢
  have hz3:z<=24576:=hb.1
  clear hz hb e
  go_enter Tryz.func158,Tryz.ntmps158
  go_wp2
  refine bodyPost_ret (v:=.agg #[.int .i64 z,.int .i64 ((k:Int) / 2 - 1)]) (by simp [results,Tryz.results158,go_sem]) rfl ⟨?_,(Below.refl _ _).alloc (Nat.le_refl _) _⟩
  rw [show ((k:Int) / 2 - 1)=((k / 2 - 1:Nat):Int) by omega]
set_option maxHeartbeats 800000 in
theorem span_four (k:Nat) (hk:k<=29) (w:World) :
  Calls Tryz.prog 158 #[.int .i64 k,.int .i64 4] w fun e w' => e = .returned (.agg #[.int .i64 (spn k 4).1,.int .i64 (spn k 4).2]) /\ Below w.heap.size w w':=by
 have hb:=spn_small k 4 (by omega) hk
 by_cases hlt:k < 4
 ·have e:spn k 4=(k,0):=by unfold spn;rw [if_pos hlt]
  rw [e]
  clear hb e
  go_enter Tryz.func158,Tryz.ntmps158
  go_wp2
  exact bodyPost_ret (v:=.agg #[.int .i64 k,.int .i64 0]) (by simp [results,Tryz.results158,go_sem]) rfl ⟨rfl,(Below.refl _ _).alloc (Nat.le_refl _) _⟩
 ·have e:spn k 4=((4+k % 4)*2 ^ (k / 4 - 1),k / 4 - 1):=by unfold spn;rw [if_neg hlt]
  rw [e] at hb ⊢
  have hq0:0<=(k:Int) / 4 - 1:=by omega
  have hq1:(k:Int) / 4 - 1<=63:=by omega
  have hq2:((k:Int) / 4 - 1).toNat=k / 4 - 1:=by omega
  obtain ⟨z,hz⟩:∃ z:Nat,z=(4+k % 4)*2 ^ (k / 4 - 1):=⟨_,rfl⟩
  have hz2:((4:Int)+(k:Int) % 4)*2 ^ (k / 4 - 1)=(z:Int):=by rw [hz];push_cast;rfl
  rw [<- hz] at hb ⊢
  have hz3:z<=24576:=hb.1
  clear hz hb e
  go_enter Tryz.func158,Tryz.ntmps158
  go_wp2
  refine bodyPost_ret (v:=.agg #[.int .i64 z,.int .i64 ((k:Int) / 4 - 1)]) (by simp [results,Tryz.results158,go_sem]) rfl ⟨?_,(Below.refl _ _).alloc (Nat.le_refl _) _⟩
  rw [show ((k:Int) / 4 - 1)=((k / 4 - 1:Nat):Int) by omega]
theorem span_two' (z:Int) (h0:0<=z) (h1:z<=29) (w:World) :
  Calls Tryz.prog 158 #[.int .i64 z,.int .i64 2] w fun e w' => e = .returned (.agg #[.int .i64 (spn z.toNat 2).1,.int .i64 (spn z.toNat 2).2]) /\ Below w.heap.size w w':=by
 obtain ⟨k,rfl⟩:=Int.eq_ofNat_of_zero_le h0
 exact span_two k (by omega) w
theorem span_four' (z:Int) (h0:0<=z) (h1:z<=29) (w:World) :
  Calls Tryz.prog 158 #[.int .i64 z,.int .i64 4] w fun e w' => e = .returned (.agg #[.int .i64 (spn z.toNat 4).1,.int .i64 (spn z.toNat 4).2]) /\ Below w.heap.size w w':=by
 obtain ⟨k,rfl⟩:=Int.eq_ofNat_of_zero_le h0
 exact span_four k (by omega) w
theorem kept2 {w w1:World} {a b:Value} {T:TypeId} (hb:Below (w.alloc (.cells #[a,b] T)).heap.size (w.alloc (.cells #[a,b] T)) w1) :
  w1.cell? ⟨w.heap.size,0,none⟩=some a /\ w1.cell? ⟨w.heap.size,1,none⟩=some b /\ w1.frozen? ⟨w.heap.size,0,none⟩=false /\ w1.frozen? ⟨w.heap.size,1,none⟩=false /\ w.heap.size < w1.heap.size /\ Below w.heap.size w w1:=by
 have hs:=hb.size
 simp at hs
 refine ⟨?_,?_,?_,?_,by omega,((Below.refl _ _).alloc (Nat.le_refl _) _).trans (hb.mono (by simp))⟩
 ·rw [hb.cell (p:=⟨w.heap.size,0,none⟩) (by simp)];simp
 ·rw [hb.cell (p:=⟨w.heap.size,1,none⟩) (by simp)];simp
 ·rw [hb.frozen (p:=⟨w.heap.size,0,none⟩) (by simp)];simp
 ·rw [hb.frozen (p:=⟨w.heap.size,1,none⟩) (by simp)];simp
set_option maxHeartbeats 800000 in
theorem back_any (z:Int) (h0:0<=z) (h1:z<=29) (w:World) :
  Calls Tryz.prog 111 #[.int .i64 z] w fun e w' => e = .returned (.agg #[.int .i64 (bck z.toNat).1,.int .i64 (bck z.toNat).2]) /\ Below w.heap.size w w':=by
 obtain ⟨l,hl⟩:∃ l,l=(spn z.toNat 2).1:=⟨_,rfl⟩
 obtain ⟨n,hn⟩:∃ n,n=(spn z.toNat 2).2:=⟨_,rfl⟩
 have hb:l<=24576:=by rw [hl];exact (spn_small z.toNat 2 (by omega) (by omega)).1
 have e:bck z.toNat=(l+1,n):=by unfold bck;rw [hl,hn]
 rw [e]
 have HL:=hid hl
 have HN:=hid hn
 clear hl hn e
 go_enter Tryz.func111,Tryz.ntmps111
 go_wp2_with (go_at_call 158;refine (span_two' _ h0 h1 _).mono ?_;rintro e w1 ⟨rfl,hb1⟩;rw [<- HL.out,<- HN.out];obtain ⟨m0,m1,m2,m3,m4,m5⟩:=kept2 hb1;clear hb1)
 refine bodyPost_ret (v:=.agg #[.int .i64 (l+1),.int .i64 n]) (by simp [results,Tryz.results111,go_sem,m0,m1,m4]) rfl ⟨rfl,?_⟩
 exact ((m5.setCell (Nat.le_refl _) _).setCell (Nat.le_refl _) _).alloc (by simp [World.setCell];omega) _
set_option maxHeartbeats 800000 in
theorem again_span (z:Int) (h0:257<=z) (h1:z<=285) (w:World) :
  Calls Tryz.prog 110 #[.int .i64 z] w fun e w' => e = .returned (.agg #[.int .i64 (agn (z - 257).toNat).1,.int .i64 (agn (z - 257).toNat).2]) /\ Below w.heap.size w w':=by
 by_cases h285:z=285
 ·subst h285
  go_enter Tryz.func110,Tryz.ntmps110
  go_wp2
  exact bodyPost_ret (v:=.agg #[.int .i64 258,.int .i64 0]) (by simp [results,Tryz.results110,go_sem]) rfl ⟨rfl,(Below.refl _ _).alloc (Nat.le_refl _) _⟩
 ·obtain ⟨l,hl⟩:∃ l,l=(spn (z - 257).toNat 4).1:=⟨_,rfl⟩
  obtain ⟨n,hn⟩:∃ n,n=(spn (z - 257).toNat 4).2:=⟨_,rfl⟩
  have hb:l<=24576:=by rw [hl];exact (spn_small (z - 257).toNat 4 (by omega) (by omega)).1
  have e:agn (z - 257).toNat=(l+3,n):=by unfold agn;rw [if_neg (by omega),hl,hn]
  rw [e]
  have HL:=hid hl
  have HN:=hid hn
  have hne:(z == 285)=false:=beq_eq_false_iff_ne.2 h285
  have hz:Hid (z - 256 - 1=z - 257):=by show _=_;omega
  clear hl hn e
  go_enter Tryz.func110,Tryz.ntmps110
  go_wp2_with (go_at_call 158;refine (span_four' _ (by omega) (by omega) _).mono ?_;rintro e w1 ⟨rfl,hb1⟩;rw [hz.out,<- HL.out,<- HN.out];obtain ⟨m0,m1,m2,m3,m4,m5⟩:=kept2 hb1;clear hb1)
  refine bodyPost_ret (v:=.agg #[.int .i64 (l+3),.int .i64 n]) (by simp [results,Tryz.results110,go_sem,m0,m1,m4]) rfl ⟨rfl,?_⟩
  exact ((m5.setCell (Nat.le_refl _) _).setCell (Nat.le_refl _) _).alloc (by simp [World.setCell];omega) _
set_option maxHeartbeats 800000 in
theorem times_any (z:Int) (h0:0<=z) (h1:z<=18) (w:World) :
  Calls Tryz.prog 169 #[.int .i64 z] w fun e w' => e = .returned (.agg #[.int .i64 (tms z.toNat).1,.int .i64 (tms z.toNat).2]) /\ Below w.heap.size w w':=by
 by_cases h16:z=16
 ·subst h16
  go_enter Tryz.func169,Tryz.ntmps169
  go_wp2
  exact bodyPost_ret (v:=.agg #[.int .i64 3,.int .i64 2]) (by simp [results,Tryz.results169,go_sem]) rfl ⟨rfl,(Below.refl _ _).alloc (Nat.le_refl _) _⟩
 ·have b16:(z == 16)=false:=beq_eq_false_iff_ne.2 h16
  by_cases h17:z=17
  ·subst h17
   go_enter Tryz.func169,Tryz.ntmps169
   go_wp2
   exact bodyPost_ret (v:=.agg #[.int .i64 3,.int .i64 3]) (by simp [results,Tryz.results169,go_sem]) rfl ⟨rfl,(Below.refl _ _).alloc (Nat.le_refl _) _⟩
  ·have b17:(z == 17)=false:=beq_eq_false_iff_ne.2 h17
   by_cases h18:z=18
   ·subst h18
    go_enter Tryz.func169,Tryz.ntmps169
    go_wp2
    exact bodyPost_ret (v:=.agg #[.int .i64 11,.int .i64 7]) (by simp [results,Tryz.results169,go_sem]) rfl ⟨rfl,(Below.refl _ _).alloc (Nat.le_refl _) _⟩
   ·have b18:(z == 18)=false:=beq_eq_false_iff_ne.2 h18
    have e:tms z.toNat=(1,0):=by unfold tms;rw [if_neg (by omega),if_neg (by omega),if_neg (by omega)]
    rw [e]
    clear e
    go_enter Tryz.func169,Tryz.ntmps169
    go_wp2
    exact bodyPost_ret (v:=.agg #[.int .i64 1,.int .i64 0]) (by simp [results,Tryz.results169,go_sem]) rfl ⟨rfl,(Below.refl _ _).alloc (Nat.le_refl _) _⟩
theorem dead {P:Program} {G:Prop} (h:G) (w:World):wpAny P .any #[] (fun _ _ _ => True) 0 #[] ⟨#[],[]⟩ w->G:=fun _ => h
end Go.Proofs.YthdmjmnkhlpnnabGreatDoor
namespace Go.Proofs.YthdmjmnkhlpnnabGreatDoor
open Go.RowKit
inductive Tx where
 | ok (p:Nat) (t:List UInt8)
 | no (e:Nat) (t:List UInt8)
def cpy (M:Int) (back p:Nat):Nat->List UInt8->Tx
 | 0,t => .ok p t
 | n+1,t => if (t.length:Int) < M then cpy M back p n (t ++ [t.getD (t.length - back) 0]) else .no 6 t
def agF (M:Int) (zb:List Int) (s:ByteArray) (n p:Nat) (t:List UInt8):Tx :=
 match sym zb s p with
 | .no e => .no e t
 | .ok v q =>
  if 30<=v then .no 4 t
  else if q+(bck v.toNat).2<=8*s.size then
   if t.length < (bck v.toNat).1+val s q (bck v.toNat).2 then .no 5 t
   else cpy M ((bck v.toNat).1+val s q (bck v.toNat).2) (q+(bck v.toNat).2) n t
  else .no 1 t
def ltF (M:Int) (za zb:List Int) (s:ByteArray):Nat->Nat->List UInt8->Tx
 | 0,p,t => .ok p t
 | f+1,p,t =>
  match sym za s p with
  | .no e => .no e t
  | .ok v q =>
   if v < 256 then
    if (t.length:Int) < M then ltF M za zb s f q (t ++ [UInt8.ofNat v.toNat]) else .no 6 t
   else if v=256 then .ok q t
   else if v < 286 then
    if q+(agn (v - 257).toNat).2<=8*s.size then
     match agF M zb s ((agn (v - 257).toNat).1+val s q (agn (v - 257).toNat).2) (q+(agn (v - 257).toNat).2) t with
     | .ok p' t' => ltF M za zb s f p' t'
     | .no e t' => .no e t'
    else .no 1 t
   else .no 4 t
def rawF (M:Int) (s:ByteArray):Nat->Nat->List UInt8->Tx
 | 0,a,t => .ok (8*a) t
 | n+1,a,t =>
  if a < s.size then
   if (t.length:Int) < M then rawF M s n (a+1) (t ++ [byu s a]) else .no 6 t
  else .no 1 t
def asF (M:Int) (s:ByteArray) (p:Nat) (t:List UInt8):Tx :=
 if (p+7) / 8*8+32<=8*s.size then
  if (val s ((p+7) / 8*8+16) 16:Int)=65535 - (val s ((p+7) / 8*8) 16:Int) then rawF M s (val s ((p+7) / 8*8) 16) ((p+7) / 8+4) t
  else .no 2 t
 else .no 1 t
def ord:List Nat:=[16,17,18,0,8,7,9,6,10,5,11,4,12,3,13,2,14,1,15]
def clF (s:ByteArray) (p:Nat):Nat->List Int
 | 0 => List.replicate 19 0
 | k+1 => (clF s p k).set (ord.getD k 0) (val s (p+3*k) 3)
inductive Ls where
 | ok (l:List Int) (p:Nat)
 | no (e:Nat)
def tol (v:Int) (l:List Int):Int:=if v < 16 then v else if 16 < v then 0 else l.getD (l.length - 1) 0
def lnF (zc:List Int) (s:ByteArray) (N:Nat):Nat->List Int->Nat->Ls
 | 0,l,p => .ok l p
 | f+1,l,p =>
  if l.length < N then
   match sym zc s p with
   | .no e => .no e
   | .ok v q =>
    if v=16 /\ l.length=0 then .no 3
    else if q+(tms v.toNat).2<=8*s.size then
     if N - l.length < (tms v.toNat).1+val s q (tms v.toNat).2 then .no 3
     else lnF zc s N f (l ++ List.replicate ((tms v.toNat).1+val s q (tms v.toNat).2) (tol v l)) (q+(tms v.toNat).2)
    else .no 1
  else .ok l p
inductive Cs where
 | ok (za zb:List Int) (p:Nat)
 | no (e:Nat)
def mayL (zs:List Int):Bool:=decide (wt zs=32768) || (decide (plc zs 15=1) && decide (cnt zs 1=1))
def mayS (zs:List Int):Bool:=mayL zs || decide (plc zs 15=0)
def owF (s:ByteArray) (p:Nat):Cs :=
 if p+14<=8*s.size then
  if 286 < 257+val s p 5 ∨ 30 < 1+val s (p+5) 5 then .no 3
  else if p+14+3*(4+val s (p+10) 4)<=8*s.size then
   if wt (clF s (p+14) (4+val s (p+10) 4))=32768 then
    match lnF (clF s (p+14) (4+val s (p+10) 4)) s (257+val s p 5+(1+val s (p+5) 5)) (257+val s p 5+(1+val s (p+5) 5)+1) [] (p+14+3*(4+val s (p+10) 4)) with
    | .no e => .no e
    | .ok l q =>
     if l.getD 256 0 ≠ 0 /\ mayL (l.take (257+val s p 5))=true /\ mayS (l.drop (257+val s p 5))=true then .ok (l.take (257+val s p 5)) (l.drop (257+val s p 5)) q
     else .no 3
   else .no 3
  else .no 1
 else .no 1
def zfa:List Int:=List.replicate 144 8 ++ List.replicate 112 9 ++ List.replicate 24 7 ++ List.replicate 8 8
def zfb:List Int:=List.replicate 32 5
def bkF (M:Int) (s:ByteArray) (k p:Nat) (t:List UInt8):Tx :=
 if k=0 then asF M s p t
 else if k=1 then ltF M zfa zfb s (8*s.size+1) p t
 else if k=2 then
  match owF s p with
  | .no e => .no e t
  | .ok za zb q => ltF M za zb s (8*s.size+1) q t
 else .no 2 t
def blF (M:Int) (s:ByteArray):Nat->Nat->List UInt8->Tx
 | 0,p,t => .ok p t
 | f+1,p,t =>
  if p+3<=8*s.size then
   match bkF M s (val s (p+1) 2) (p+3) t with
   | .no e t' => .no e t'
   | .ok q t' => if bitAt s p=1 then .ok q t' else blF M s f q t'
  else .no 1 t
def inF (s:ByteArray) (M:Int):Tx:=blF M s (8*s.size+1) 0 []
theorem cpy_end {M:Int} {b p n:Nat} {t t':List UInt8} {q:Nat} (h:cpy M b p n t = .ok q t'):q=p:=by
 induction n generalizing t with
 | zero => simp [cpy] at h;exact h.1.symm
 | succ n ih =>
  rw [cpy] at h
  split at h
  ·exact ih h
  ·simp at h
theorem agF_end {M:Int} {zb:List Int} {s:ByteArray} {n p:Nat} {t t':List UInt8} {q:Nat} (h:agF M zb s n p t = .ok q t'):p < q /\ q<=8*s.size:=by
 unfold agF at h
 split at h
 ·simp at h
 ·rename_i v r hs
  have:=sym_ok hs
  split at h
  ·simp at h
  ·split at h
   ·split at h
    ·simp at h
    ·have:=cpy_end h;omega
   ·simp at h
end Go.Proofs.YthdmjmnkhlpnnabGreatDoor
namespace Go.Proofs.YthdmjmnkhlpnnabGreatDoor
def low (m:Nat):List Int->Nat
 | [] => 0
 | z :: r => (if 0 < z /\ z < (m:Int) then 2 ^ (15 - z.toNat) else 0)+low m r
theorem low_append (m:Nat) (l r:List Int):low m (l ++ r)=low m l+low m r:=by
 induction l with
 | nil => simp [low]
 | cons z l ih => simp only [List.cons_append,low,ih];omega
theorem low_zero (l:List Int):low 0 l=0:=by
 induction l with
 | nil => rfl
 | cons z l ih => simp only [low,ih];rw [if_neg (by omega)]
theorem cnt_cons (z:Int) (l:List Int) (j:Nat):cnt (z :: l) j=cnt l j+if 0 < z /\ z=(j:Int) then 1 else 0:=by
 unfold cnt
 by_cases h0:j=0
 ·subst h0;simp;omega
 ·rw [if_neg h0,if_neg h0,List.count_cons]
  by_cases hz:z=(j:Int)
  ·subst hz;simp;omega
  ·simp [hz]
theorem low_succ (l:List Int) (m:Nat):low (m+1) l=low m l+cnt l m*2 ^ (15 - m):=by
 induction l with
 | nil => simp [low,cnt]
 | cons z l ih =>
  rw [cnt_cons,Nat.add_mul]
  simp only [low,ih]
  by_cases h1:0 < z /\ z < (m:Int)
  ·rw [if_pos h1,if_pos (by omega),if_neg (by omega)];omega
  ·rw [if_neg h1]
   by_cases h2:0 < z /\ z=(m:Int)
   ·have:z.toNat=m:=by omega
    rw [if_pos (by omega),if_pos h2,this];omega
   ·rw [if_neg (by omega),if_neg h2];omega
theorem low_eq (l:List Int) (m:Nat) (h:m<=15):low m l=fst l m*2 ^ (15 - m):=by
 induction m with
 | zero => rw [low_zero];simp [fst]
 | succ m ih =>
  have e:15 - m=(15 - (m+1))+1:=by omega
  rw [low_succ,ih (by omega),<- Nat.add_mul,fst,e,Nat.pow_succ,Nat.mul_comm 2,Nat.mul_assoc,Nat.mul_comm 2]
def aw (zs:List Int) (i k:Nat):Nat:=if 0 < zs.getD k 0 /\ (zs.getD k 0 < zs.getD i 0 ∨ zs.getD k 0=zs.getD i 0 /\ k < i) then 2 ^ (15 - (zs.getD k 0).toNat) else 0
def ahd (zs:List Int) (i:Nat):Nat->Nat
 | 0 => 0
 | k+1 => ahd zs i k+aw zs i k
theorem cnt_snoc' (l:List Int) (z:Int) (j:Nat):cnt (l ++ [z]) j=cnt l j+if 0 < z /\ z=(j:Int) then 1 else 0:=by
 induction l with
 | nil => rw [List.nil_append,cnt_cons]
 | cons y l ih => rw [List.cons_append,cnt_cons,cnt_cons,ih];omega
theorem ahd_eq (zs:List Int) (i:Nat) (hi:0 < zs.getD i 0) (k:Nat) (hk:k<=zs.length) :
  ahd zs i k=low (zs.getD i 0).toNat (zs.take k)+cnt (zs.take (min k i)) (zs.getD i 0).toNat*2 ^ (15 - (zs.getD i 0).toNat):=by
 induction k with
 | zero => simp [ahd,low,cnt]
 | succ k ih =>
  have hlt:k < zs.length:=by omega
  rw [ahd,ih (by omega),take_snocI zs k hlt,low_append]
  simp only [low]
  unfold aw
  generalize hy:zs.getD k 0=y
  generalize hx:zs.getD i 0=x at *
  have ex:((x.toNat:Nat):Int)=x:=by omega
  rw [ex]
  by_cases hki:k < i
  ·rw [show min (k+1) i=k+1 by omega,show min k i=k by omega,take_snocI zs k hlt,hy,cnt_snoc',ex,Nat.add_mul]
   by_cases h1:0 < y /\ y < x
   ·rw [if_pos (by omega),if_pos h1,if_neg (by omega)];omega
   ·by_cases h2:0 < y /\ y=x
    ·have:y.toNat=x.toNat:=by omega
     rw [if_pos (by omega),if_neg h1,if_pos h2,this];omega
    ·rw [if_neg (by omega),if_neg h1,if_neg h2];omega
  ·rw [show min (k+1) i=i by omega,show min k i=i by omega]
   by_cases h1:0 < y /\ y < x
   ·rw [if_pos (by omega),if_pos h1];omega
   ·rw [if_neg (by omega),if_neg h1];omega
theorem ahd_bt (zs:List Int) (i:Nat) (hi:i < zs.length) (h0:0 < zs.getD i 0) (h15:zs.getD i 0<=15):ahd zs i zs.length / 2 ^ (15 - (zs.getD i 0).toNat)=bt zs i:=by
 rw [ahd_eq zs i h0 zs.length (Nat.le_refl _),List.take_length,low_eq zs _ (by omega),show min zs.length i=i by omega,<- Nat.add_mul,Nat.mul_div_cancel _ (Nat.two_pow_pos _)]
 unfold bt
 rw [if_pos h0]
end Go.Proofs.YthdmjmnkhlpnnabGreatDoor
namespace Go.Proofs.YthdmjmnkhlpnnabGreatDoor
def nm (s:ByteArray):Nat:=leN s.data.toList
theorem leN_get (l:List UInt8) (i:Nat):(l.getD i 0).toNat=leN l / 256 ^ i % 256:=by
 induction l generalizing i with
 | nil => simp [leN]
 | cons b l ih =>
  cases i with
  | zero => have:=b.toNat_lt;simp only [List.getD_cons_zero,leN,Nat.pow_zero,Nat.div_one];omega
  | succ i =>
   have:=b.toNat_lt
   rw [List.getD_cons_succ,ih,leN,Nat.pow_succ,Nat.mul_comm (256 ^ i),<- Nat.div_div_eq_div_mul]
   congr 2
   omega
theorem bitAt_nm (s:ByteArray) (p:Nat):bitAt s p=nm s / 2 ^ p % 2:=by
 unfold bitAt byt nm
 rw [leN_get,pow256]
 have h8:p % 8 < 8:=Nat.mod_lt _ (by omega)
 have e:(256:Nat)=2 ^ (p % 8)*2 ^ (8 - p % 8):=by rw [<- Nat.pow_add,show p % 8+(8 - p % 8)=8 by omega]
 rw [e,Nat.mod_mul_right_div_self,Nat.mod_mod_of_dvd _ (Nat.dvd_trans (by decide:2 ∣ 2 ^ 1) (Nat.pow_dvd_pow 2 (by omega))),Nat.div_div_eq_div_mul,<- Nat.pow_add]
 congr 3
 omega
theorem val_nm (s:ByteArray) (p n:Nat):val s p n=nm s / 2 ^ p % 2 ^ n:=by
 induction n with
 | zero => simp [val,Nat.mod_one]
 | succ n ih => rw [val,ih,bitAt_nm,Nat.mod_pow_succ,Nat.pow_add,<- Nat.div_div_eq_div_mul,Nat.mul_comm]
theorem val_cons (s:ByteArray) (p n:Nat):val s p (n+1)=bitAt s p+2*val s (p+1) n:=by
 rw [val_nm,val_nm,bitAt_nm,Nat.pow_succ,Nat.mul_comm (2 ^ n),Nat.mod_mul,Nat.div_div_eq_div_mul,<- Nat.pow_succ]
def pl:List (Nat × Nat)->Nat
 | [] => 0
 | x :: r => x.2+pl r
def pv:List (Nat × Nat)->Nat
 | [] => 0
 | x :: r => x.1+2 ^ x.2*pv r
theorem pl_append (a b:List (Nat × Nat)):pl (a ++ b)=pl a+pl b:=by
 induction a with
 | nil => simp [pl]
 | cons x a ih => simp only [List.cons_append,pl,ih];omega
theorem pv_append (a b:List (Nat × Nat)):pv (a ++ b)=pv a+2 ^ pl a*pv b:=by
 induction a with
 | nil => simp [pl,pv]
 | cons x a ih => simp only [List.cons_append,pl,pv,ih,Nat.pow_add,Nat.mul_add,Nat.mul_assoc,Nat.add_assoc]
def fit (l:List (Nat × Nat)):Prop:=∀ x,x ∈ l->x.1 < 2 ^ x.2
theorem fit_append {a b:List (Nat × Nat)} (ha:fit a) (hb:fit b):fit (a ++ b):=fun x hx => by
 rcases List.mem_append.1 hx with h | h
 ·exact ha x h
 ·exact hb x h
theorem fit_cons {x:Nat × Nat} {b:List (Nat × Nat)} (ha:x.1 < 2 ^ x.2) (hb:fit b):fit (x :: b):=fun y hy => by
 rcases List.mem_cons.1 hy with rfl | h
 ·exact ha
 ·exact hb y h
theorem fit_nil:fit []:=fun x hx => by simp at hx
theorem pv_lt {l:List (Nat × Nat)} (h:fit l):pv l < 2 ^ pl l:=by
 induction l with
 | nil => simp [pv,pl]
 | cons x l ih =>
  have h1:=h x (by simp)
  have h2:=ih (fun y hy => h y (by simp [hy]))
  rw [pv,pl,Nat.pow_add]
  have h3:2 ^ x.2*(pv l+1)<=2 ^ x.2*2 ^ pl l:=Nat.mul_le_mul_left _ h2
  rw [Nat.mul_add] at h3
  omega
def Lie (s:ByteArray):Nat->List (Nat × Nat)->Prop
 | _,[] => True
 | p,x :: r => p+x.2<=8*s.size /\ val s p x.2=x.1 /\ Lie s (p+x.2) r
theorem lie_append {s:ByteArray} {p:Nat} {a b:List (Nat × Nat)}:Lie s p (a ++ b) ↔ Lie s p a /\ Lie s (p+pl a) b:=by
 induction a generalizing p with
 | nil => simp [Lie,pl]
 | cons x a ih => simp only [List.cons_append,Lie,ih,pl,Nat.add_assoc,and_assoc]
theorem lie_of {s:ByteArray} {p:Nat} {l:List (Nat × Nat)} (hf:fit l) (hp:p+pl l<=8*s.size) (h:nm s / 2 ^ p % 2 ^ pl l=pv l):Lie s p l:=by
 induction l generalizing p with
 | nil => trivial
 | cons x l ih =>
  rw [pl] at hp
  rw [pl,pv,Nat.pow_add,Nat.mod_mul] at h
  have h1:=hf x (by simp)
  have h0:=Nat.two_pow_pos x.2
  have hm:=Nat.mod_lt (nm s / 2 ^ p) h0
  have hv:=val_nm s p x.2
  rw [<- hv] at h hm
  have e1:val s p x.2=x.1:=by
   have:=congrArg (· % 2 ^ x.2) h
   simp only [Nat.add_mul_mod_self_left] at this
   rwa [Nat.mod_eq_of_lt hm,Nat.mod_eq_of_lt h1] at this
  refine ⟨by omega,e1,ih (fun y hy => hf y (by simp [hy])) (by omega) ?_⟩
  rw [e1] at h
  have h2:=Nat.add_left_cancel h
  have h3:=Nat.eq_of_mul_eq_mul_left h0 h2
  rw [Nat.pow_add,<- Nat.div_div_eq_div_mul]
  exact h3
def Pre (s:ByteArray) (V L:Nat):Prop:=L<=8*s.size /\ nm s % 2 ^ L=V
theorem Pre.back {s:ByteArray} {V L:Nat} {l:List (Nat × Nat)} (hf:fit l) (hV:V < 2 ^ L) (h:Pre s (V+2 ^ L*pv l) (L+pl l)):Pre s V L /\ Lie s L l:=by
 obtain ⟨h1,h2⟩:=h
 rw [Nat.pow_add,Nat.mod_mul] at h2
 have h0:=Nat.two_pow_pos L
 have hm:=Nat.mod_lt (nm s) h0
 have e1:nm s % 2 ^ L=V:=by
  have:=congrArg (· % 2 ^ L) h2
  simp only [Nat.add_mul_mod_self_left] at this
  rwa [Nat.mod_eq_of_lt hm,Nat.mod_eq_of_lt hV] at this
 rw [e1] at h2
 have h3:=Nat.eq_of_mul_eq_mul_left h0 (Nat.add_left_cancel h2)
 exact ⟨⟨by omega,e1⟩,lie_of hf h1 h3⟩
def rv:Nat->Nat->Nat
 | 0,_ => 0
 | n+1,x => x / 2 ^ n % 2+2*rv n x
theorem rv_lt (n x:Nat):rv n x < 2 ^ n:=by
 induction n with
 | zero => simp [rv]
 | succ n ih => rw [rv,Nat.pow_succ];have:=Nat.mod_lt (x / 2 ^ n) (show 0 < 2 by omega);omega
def syp (zs:List Int) (i:Nat):Nat × Nat:=(rv (zs.getD i 0).toNat (bt zs i),(zs.getD i 0).toNat)
theorem syp_fit (zs:List Int) (i:Nat):(syp zs i).1 < 2 ^ (syp zs i).2:=rv_lt _ _
theorem fst_far (zs:List Int) (k d:Nat) (hd:0 < d):2 ^ d*(fst zs k+cnt zs k)<=fst zs (k+d):=by
 induction d with
 | zero => omega
 | succ d ih =>
  rw [<- Nat.add_assoc,fst]
  by_cases h:d=0
  ·subst h;simp
  ·have:=ih (by omega)
   rw [Nat.pow_succ,Nat.mul_comm (2 ^ d),Nat.mul_assoc]
   omega
theorem low_wt (zs:List Int) (m:Nat):low m zs<=wt zs:=by
 induction zs with
 | nil => simp [low,wt]
 | cons z l ih =>
  rw [low,wt]
  split
  ·rename_i h;rw [if_pos h.1];omega
  ·omega
theorem fst_room (zs:List Int) (n:Nat) (hn:n<=15) (hw:wt zs<=32768):fst zs n+cnt zs n<=2 ^ n:=by
 have h1:=low_wt zs (n+1)
 rw [low_succ,low_eq zs n (by omega),<- Nat.add_mul] at h1
 have h2:(32768:Nat)=2 ^ n*2 ^ (15 - n):=by rw [<- Nat.pow_add,show n+(15 - n)=15 by omega]
 rw [h2] at hw
 exact Nat.le_of_mul_le_mul_right (Nat.le_trans h1 hw) (Nat.two_pow_pos _)
theorem symF_at (zs:List Int) (s:ByteArray) (i x n:Nat) (hi:i < zs.length) (hn:zs.getD i 0=(n:Int)) (h15:n<=15) (hx:x=fst zs n+cnt (zs.take i) n) (hc:cnt (zs.take i) n < cnt zs n) (d k ab p:Nat) (hd:0 < d) (hk:k+d=n) (hab:ab+fst zs k+cnt zs k=x / 2 ^ d) (hp:p+d<=8*s.size) (hv:val s p d=rv d x) :
  symF zs s (15 - k) k ab p = .ok i (p+d):=by
 induction d generalizing k ab p with
 | zero => omega
 | succ d ih =>
  have hf:15 - k=(15 - (k+1))+1:=by omega
  rw [val_cons,rv] at hv
  have hb:=bitAt_lt s p
  have hr:x / 2 ^ d % 2 < 2:=Nat.mod_lt _ (by omega)
  have e1:bitAt s p=x / 2 ^ d % 2:=by omega
  have e2:val s (p+1) d=rv d x:=by omega
  have e3:x / 2 ^ (d+1)=x / 2 ^ d / 2:=by rw [Nat.pow_succ,Nat.div_div_eq_div_mul]
  have e4:fst zs (k+1)=2*(fst zs k+cnt zs k):=rfl
  have e5:2*ab+bitAt s p+fst zs (k+1)=x / 2 ^ d:=by rw [e3] at hab;omega
  rw [hf]
  by_cases h0:d=0
  ·subst h0
   have e6:k+1=n:=by omega
   rw [Nat.pow_zero,Nat.div_one] at e5
   have e7:2*ab+bitAt s p=cnt (zs.take i) n:=by rw [e6] at e5;omega
   rw [symF_hit _ _ _ _ _ _ (by omega) (by rw [e7,e6];exact hc),e7,e6,sy_at zs n i hi (by omega) hn]
  ·have h1:=fst_far zs (k+1) d (by omega)
   rw [show k+1+d=n by omega] at h1
   have h2:fst zs (k+1)+cnt zs (k+1)<=x / 2 ^ d:=by
    rw [Nat.le_div_iff_mul_le (Nat.two_pow_pos _),Nat.mul_comm]
    omega
   rw [symF_miss _ _ _ _ _ _ (by omega) (by omega),ih (k+1) _ (p+1) (by omega) (by omega) (by omega) (by omega) e2]
   congr 1
   omega
theorem sym_at {zs:List Int} {s:ByteArray} {i p:Nat} (hok:zs.any nl=false) (hw:wt zs<=32768) (hi:i < zs.length) (h0:0 < zs.getD i 0) (h:Lie s p [syp zs i]):sym zs s p = .ok i (p+(zs.getD i 0).toNat):=by
 obtain ⟨h1,h2,-⟩:=h
 have h15:=(ok_getD hok i).2
 have hlt:=cnt_take_lt zs i hi h0
 have hx:bt zs i=fst zs (zs.getD i 0).toNat+cnt (zs.take i) (zs.getD i 0).toNat:=by unfold bt;rw [if_pos h0]
 have hr:=fst_room zs (zs.getD i 0).toNat (by omega) hw
 refine symF_at zs s i (bt zs i) (zs.getD i 0).toNat hi (by omega) (by omega) hx hlt _ 0 0 p (by omega) (by omega) ?_ h1 h2
 rw [Nat.div_eq_of_lt (by omega)]
 rfl
def nl2 (x:Nat):Nat:=if x=0 then 0 else Nat.log2 x+1
def spo (g x:Nat):Nat:=x / 2 ^ (nl2 x - nl2 g)+g*(nl2 x - nl2 g)
def ltr (c:Nat):Nat:=if c=258 then 285 else 257+spo 4 (c - 3)
def stp (b:Nat):Nat:=spo 2 (b - 1)
theorem ltr_any:∀ c:Nat,c < 259->3<=c->257<=ltr c /\ ltr c<=285 /\ (agn (ltr c - 257)).1<=c /\ c < (agn (ltr c - 257)).1+2 ^ (agn (ltr c - 257)).2:=by decide +kernel
theorem spo_two (x:Nat):(spn (spo 2 x) 2).1<=x /\ x < (spn (spo 2 x) 2).1+2 ^ (spn (spo 2 x) 2).2:=by
 have e2:nl2 2=2:=by decide +kernel
 by_cases h:x < 2
 ·have:x=0 ∨ x=1:=by omega
  rcases this with rfl | rfl <;> decide +kernel
 ·have hx:x ≠ 0:=by omega
  have h1:1<=Nat.log2 x:=(Nat.le_log2 hx).2 (by omega)
  obtain ⟨m,hm⟩:∃ m,Nat.log2 x=m+1:=⟨Nat.log2 x - 1,by omega⟩
  have h2:2 ^ (m+1)<=x:=(Nat.le_log2 hx).1 (by omega)
  have h3:x < 2 ^ (m+2):=(Nat.log2_lt hx).1 (by omega)
  have hn:nl2 x - nl2 2=m:=by rw [e2];unfold nl2;rw [if_neg hx];omega
  have h0:=Nat.two_pow_pos m
  have hq1:2<=x / 2 ^ m:=by rw [Nat.le_div_iff_mul_le h0];rw [Nat.pow_succ] at h2;omega
  have hq2:x / 2 ^ m < 4:=by rw [Nat.div_lt_iff_lt_mul h0];rw [Nat.pow_add] at h3;omega
  have hs:spo 2 x=x / 2 ^ m+2*m:=by unfold spo;rw [hn]
  have hk:¬ spo 2 x < 2:=by omega
  have hd:spo 2 x / 2 - 1=m:=by omega
  have hr:2+spo 2 x % 2=x / 2 ^ m:=by omega
  unfold spn
  rw [if_neg hk,hd,hr]
  simp only
  have:=Nat.div_add_mod x (2 ^ m)
  have:=Nat.mod_lt x h0
  rw [Nat.mul_comm (x / 2 ^ m)]
  omega
theorem stp_le (b:Nat) (h1:1<=b) (h2:b<=32768):stp b<=29:=by
 unfold stp
 have e2:nl2 2=2:=by decide +kernel
 by_cases h:b - 1 < 2
 ·have:b - 1=0 ∨ b - 1=1:=by omega
  rcases this with e | e <;> rw [e] <;> decide +kernel
 ·have h2':b - 1 < 32768:=by omega
  generalize b - 1=x at *
  have hx:x ≠ 0:=by omega
  have h1:1<=Nat.log2 x:=(Nat.le_log2 hx).2 (by omega)
  obtain ⟨m,hm⟩:∃ m,Nat.log2 x=m+1:=⟨Nat.log2 x - 1,by omega⟩
  have h3:x < 2 ^ (m+2):=(Nat.log2_lt hx).1 (by omega)
  have hn:nl2 x - nl2 2=m:=by rw [e2];unfold nl2;rw [if_neg hx];omega
  have h0:=Nat.two_pow_pos m
  have hq2:x / 2 ^ m < 4:=by rw [Nat.div_lt_iff_lt_mul h0];rw [Nat.pow_add] at h3;omega
  have hm2:Nat.log2 x < 15:=(Nat.log2_lt hx).2 (by omega)
  unfold spo
  rw [hn]
  omega
theorem stp_any (b:Nat) (h1:1<=b):(bck (stp b)).1<=b /\ b < (bck (stp b)).1+2 ^ (bck (stp b)).2:=by
 have:=spo_two (b - 1)
 unfold bck stp
 simp only
 omega
inductive Wd where
 | lit (b:UInt8)
 | mat (c b:Nat)
def cpL (b:Nat):Nat->List UInt8->List UInt8
 | 0,t => t
 | n+1,t => cpL b n (t ++ [t.getD (t.length - b) 0])
theorem cpL_length (b n:Nat) (t:List UInt8):(cpL b n t).length=t.length+n:=by
 induction n generalizing t with
 | zero => rfl
 | succ n ih => rw [cpL,ih,List.length_append];simp;omega
theorem cpy_ok (M:Int) (b p n:Nat) (t:List UInt8) (h:((t.length+n:Nat):Int)<=M):cpy M b p n t = .ok p (cpL b n t):=by
 induction n generalizing t with
 | zero => rfl
 | succ n ih =>
  rw [cpy,if_pos (by omega),ih _ (by rw [List.length_append];simp;omega)]
  rfl
def exw:List Wd->List UInt8->List UInt8
 | [],t => t
 | .lit x :: r,t => exw r (t ++ [x])
 | .mat c b :: r,t => exw r (cpL b c t)
def wn:Wd->Nat
 | .lit _ => 1
 | .mat c _ => c
def wns:List Wd->Nat
 | [] => 0
 | x :: r => wn x+wns r
theorem exw_length (ws:List Wd) (t:List UInt8):(exw ws t).length=t.length+wns ws:=by
 induction ws generalizing t with
 | nil => rfl
 | cons x r ih =>
  cases x with
  | lit b => rw [exw,ih,List.length_append];simp only [List.length_singleton,wns,wn];omega
  | mat c b => rw [exw,ih,cpL_length,wns,wn];omega
def wp1 (za zb:List Int):Wd->List (Nat × Nat)
 | .lit x => [syp za x.toNat]
 | .mat c b => [syp za (ltr c),(c - (agn (ltr c - 257)).1,(agn (ltr c - 257)).2),syp zb (stp b),(b - (bck (stp b)).1,(bck (stp b)).2)]
def wps (za zb:List Int):List Wd->List (Nat × Nat)
 | [] => [syp za 256]
 | x :: r => wp1 za zb x ++ wps za zb r
def ok1 (za zb:List Int) (n:Nat):Wd->Prop
 | .lit x => 0 < za.getD x.toNat 0
 | .mat c b => 3<=c /\ c<=258 /\ 1<=b /\ b<=32768 /\ b<=n /\ 0 < za.getD (ltr c) 0 /\ 0 < zb.getD (stp b) 0
def okw (za zb:List Int):List Wd->Nat->Prop
 | [],_ => 0 < za.getD 256 0
 | x :: r,n => ok1 za zb n x /\ okw za zb r (n+wn x)
theorem getD_lt {zs:List Int} {i:Nat} (h:0 < zs.getD i 0):i < zs.length:=by
 apply Classical.byContradiction
 intro hn
 rw [List.getD_eq_getElem?_getD,List.getElem?_eq_none (by omega)] at h
 simp at h
theorem wps_fit {za zb:List Int} {ws:List Wd} {n:Nat} (h:okw za zb ws n):fit (wps za zb ws):=by
 induction ws generalizing n with
 | nil => exact fit_cons (syp_fit _ _) fit_nil
 | cons x r ih =>
  refine fit_append ?_ (ih h.2)
  cases x with
  | lit b => exact fit_cons (syp_fit _ _) fit_nil
  | mat c b =>
   obtain ⟨h1,h2,h3,h4,-⟩:=h.1
   have a1:=ltr_any c (by omega) h1
   have a2:=stp_any b h3
   exact fit_cons (syp_fit _ _) (fit_cons (by simp only;omega) (fit_cons (syp_fit _ _) (fit_cons (by simp only;omega) fit_nil)))
structure Good (zs:List Int):Prop where
 ok:zs.any nl=false
 wt:wt zs<=32768
theorem ltF_at {M:Int} {za zb:List Int} {s:ByteArray} (ga:Good za) (gb:Good zb) (ws:List Wd) (f p:Nat) (t:List UInt8) (hk:okw za zb ws t.length) (hM:((t.length+wns ws:Nat):Int)<=M) (hf:ws.length < f) (h:Lie s p (wps za zb ws)) :
  ltF M za zb s f p t = .ok (p+pl (wps za zb ws)) (exw ws t):=by
 induction ws generalizing f p t with
 | nil =>
  obtain ⟨f,rfl⟩:∃ g,f=g+1:=⟨f - 1,by simp at hf;omega⟩
  have hk:0 < za.getD 256 0:=hk
  rw [ltF,sym_at ga.ok ga.wt (getD_lt hk) hk h]
  rfl
 | cons x r ih =>
  obtain ⟨f,rfl⟩:∃ g,f=g+1:=⟨f - 1,by simp at hf;omega⟩
  rw [wps] at h ⊢
  rw [pl_append]
  obtain ⟨h1,h2⟩:=lie_append.1 h
  simp only [List.length_cons] at hf
  obtain ⟨hx,hr⟩:=hk
  cases x with
  | lit b =>
   have hx:0 < za.getD b.toNat 0:=hx
   have hb:=b.toNat_lt
   rw [ltF,sym_at ga.ok ga.wt (getD_lt hx) hx h1]
   simp only [wns,wn] at hM
   simp only
   have e:UInt8.ofNat ((b.toNat:Int)).toNat=b:=by rw [Int.toNat_natCast];exact UInt8.ofNat_toNat
   have e9:p+(za.getD b.toNat 0).toNat=p+pl (wp1 za zb (.lit b)):=by simp only [wp1,pl,syp];omega
   rw [if_pos (by omega),if_pos (by omega),e,e9,ih f _ (t ++ [b]) (by rw [List.length_append];exact hr) (by rw [List.length_append];simp only [List.length_singleton];omega) (by omega) h2,exw,Nat.add_assoc]
  | mat c b =>
   obtain ⟨k1,k2,k3,k4,k5,k6,k7⟩:=hx
   have a1:=ltr_any c (by omega) k1
   have a2:=stp_any b k3
   have a3:=stp_le b k3 k4
   simp only [wns,wn] at hM
   obtain ⟨l1,l2⟩:=lie_append (a:=[syp za (ltr c)]) (b:=[(c - (agn (ltr c - 257)).1,(agn (ltr c - 257)).2),syp zb (stp b),(b - (bck (stp b)).1,(bck (stp b)).2)]) |>.1 h1
   obtain ⟨⟨l3,l4,-⟩,l5⟩:=lie_append (a:=[(c - (agn (ltr c - 257)).1,(agn (ltr c - 257)).2)]) (b:=[syp zb (stp b),(b - (bck (stp b)).1,(bck (stp b)).2)]) |>.1 l2
   obtain ⟨l6,l7,l8,-⟩:=lie_append (a:=[syp zb (stp b)]) (b:=[(b - (bck (stp b)).1,(bck (stp b)).2)]) |>.1 l5
   simp only [pl,syp,Nat.add_zero] at l3 l4 l6 l7 l8
   have hv:(((ltr c:Nat):Int) - 257).toNat=ltr c - 257:=by omega
   rw [ltF,sym_at ga.ok ga.wt (getD_lt k6) k6 l1]
   simp only
   rw [if_neg (by omega),if_neg (by omega),if_pos (by omega),hv,if_pos l3,l4]
   unfold agF
   rw [sym_at gb.ok gb.wt (getD_lt k7) k7 l6]
   simp only [Int.toNat_natCast]
   rw [if_neg (by omega),if_pos l7,l8,if_neg (by omega),show (bck (stp b)).1+(b - (bck (stp b)).1)=b by omega,show (agn (ltr c - 257)).1+(c - (agn (ltr c - 257)).1)=c by omega,cpy_ok _ _ _ _ _ (by omega)]
   simp only
   have e9:p+(za.getD (ltr c) 0).toNat+(agn (ltr c - 257)).2+(zb.getD (stp b) 0).toNat+(bck (stp b)).2=p+pl (wp1 za zb (.mat c b)):=by simp only [wp1,pl,syp];omega
   rw [e9,ih f _ _ (by rw [cpL_length];exact hr) (by rw [cpL_length];omega) (by omega) h2,exw,Nat.add_assoc]
def byp (t:List UInt8):List (Nat × Nat):=t.map fun b => (b.toNat,8)
theorem byp_pl (t:List UInt8):pl (byp t)=8*t.length:=by
 induction t with
 | nil => rfl
 | cons b t ih => show 8+pl (byp t)=_;rw [ih,List.length_cons];omega
theorem byp_pv (t:List UInt8):pv (byp t)=leN t:=by
 induction t with
 | nil => rfl
 | cons b t ih => show b.toNat+2 ^ 8*pv (byp t)=_;rw [ih];rfl
theorem byp_fit (t:List UInt8):fit (byp t):=fun x hx => by
 simp only [byp,List.mem_map] at hx
 obtain ⟨b,-,rfl⟩:=hx
 exact b.toNat_lt
theorem val_byte (s:ByteArray) (a:Nat):val s (8*a) 8=(byu s a).toNat:=by
 rw [val_nm]
 unfold byu nm
 rw [leN_get,pow256]
theorem rawF_at {M:Int} {s:ByteArray} (t:List UInt8) (a:Nat) (u:List UInt8) (hM:((u.length+t.length:Nat):Int)<=M) (h:Lie s (8*a) (byp t)):rawF M s t.length a u = .ok (8*a+pl (byp t)) (u ++ t):=by
 induction t generalizing a u with
 | nil => simp [rawF,byp,pl]
 | cons b t ih =>
  obtain ⟨h1,h2,h3⟩:=h
  rw [val_byte] at h2
  have e:byu s a=b:=UInt8.toNat_inj.1 h2
  simp only [List.length_cons] at hM ⊢
  rw [rawF,if_pos (by simp only at h1;omega),if_pos (by omega),e,ih (a+1) (u ++ [b]) (by rw [List.length_append];simp only [List.length_singleton];omega) (by rw [show 8*(a+1)=8*a+8 by omega];exact h3)]
  rw [List.append_assoc]
  congr 1
  show 8*(a+1)+pl (byp t)=8*a+(8+pl (byp t))
  omega
def asp (p:Nat) (t:List UInt8):List (Nat × Nat):=[(0,lft p),(t.length,16),(65535 - t.length,16)] ++ byp t
theorem asp_pl (p:Nat) (t:List UInt8):pl (asp p t)=lft p+32+8*t.length:=by
 unfold asp
 rw [pl_append,byp_pl]
 simp only [pl]
theorem asp_fit (p:Nat) (t:List UInt8) (ht:t.length<=65535):fit (asp p t) :=
 fit_append (fit_cons (Nat.two_pow_pos _) (fit_cons (by simp only;omega) (fit_cons (by simp only;omega) fit_nil))) (byp_fit t)
theorem asF_at {M:Int} {s:ByteArray} (t u:List UInt8) (p:Nat) (ht:t.length<=65535) (hM:((u.length+t.length:Nat):Int)<=M) (h:Lie s p (asp p t)):asF M s p u = .ok (p+pl (asp p t)) (u ++ t):=by
 have hp:=asp_pl p t
 unfold asp at h
 obtain ⟨⟨h1,-,h2,h3,h4,h5,-⟩,h6⟩:=lie_append.1 h
 have e:(p+7) / 8*8=p+lft p:=by unfold lft;omega
 have e2:pl [(0,lft p),(t.length,16),(65535 - t.length,16)]=lft p+32:=by simp only [pl]
 rw [e2] at h6
 simp only at h1 h2 h3 h4 h5
 unfold asF
 have e3:8*((p+7) / 8+4)=p+(lft p+32):=by omega
 rw [e,if_pos (by omega),h5,h3,if_pos (by omega),rawF_at t _ u hM (by rw [e3];exact h6),e3,hp,byp_pl]
 congr 1
 omega
/-! the head of a block that brings its own codes -/
def rps (zc:List Int):List (Nat × Nat)->List (Nat × Nat)
 | [] => []
 | r :: l => [syp zc r.1,(r.2 - (tms r.1).1,(tms r.1).2)] ++ rps zc l
def exr:List (Nat × Nat)->List Int->List Int
 | [],l => l
 | r :: q,l => exr q (l ++ List.replicate r.2 (tol r.1 l))
def okr (zc:List Int):List (Nat × Nat)->List Int->Prop
 | [],_ => True
 | r :: q,l => (tms r.1).1<=r.2 /\ r.2 < (tms r.1).1+2 ^ (tms r.1).2 /\ 0 < zc.getD r.1 0 /\ (r.1=16->0 < l.length) /\ okr zc q (l ++ List.replicate r.2 (tol r.1 l))
theorem exr_length (q:List (Nat × Nat)) (l:List Int):l.length<=(exr q l).length:=by
 induction q generalizing l with
 | nil => exact Nat.le_refl _
 | cons r q ih => rw [exr];have:=ih (l ++ List.replicate r.2 (tol r.1 l));rw [List.length_append] at this;omega
theorem exr_many {zc:List Int} (q:List (Nat × Nat)) (l:List Int) (h:okr zc q l):l.length+q.length<=(exr q l).length:=by
 induction q generalizing l with
 | nil => exact Nat.le_refl _
 | cons r q ih =>
  obtain ⟨h1,-,-,-,h5⟩:=h
  have:=ih _ h5
  have ht:=tms_le r.1
  rw [List.length_append,List.length_replicate] at this
  rw [exr,List.length_cons]
  omega
theorem rps_fit {zc:List Int} {q:List (Nat × Nat)} {l:List Int} (h:okr zc q l):fit (rps zc q):=by
 induction q generalizing l with
 | nil => exact fit_nil
 | cons r q ih =>
  obtain ⟨h1,h2,-,-,h5⟩:=h
  exact fit_append (fit_cons (syp_fit _ _) (fit_cons (by simp only;omega) fit_nil)) (ih h5)
theorem lnF_at {zc:List Int} {s:ByteArray} (gc:Good zc) (N:Nat) (q:List (Nat × Nat)) (f p:Nat) (l:List Int) (hk:okr zc q l) (hN:(exr q l).length=N) (hf:q.length<=f) (h:Lie s p (rps zc q)):lnF zc s N f l p = .ok (exr q l) (p+pl (rps zc q)):=by
 induction q generalizing f p l with
 | nil =>
  have hN:l.length=N:=hN
  cases f with
  | zero => rfl
  | succ f => rw [lnF,if_neg (by omega)];rfl
 | cons r q ih =>
  obtain ⟨f,rfl⟩:∃ g,f=g+1:=⟨f - 1,by simp at hf;omega⟩
  obtain ⟨h1,h2,h3,h4,h5⟩:=hk
  simp only [List.length_cons] at hf
  rw [rps] at h ⊢
  obtain ⟨l1,l2⟩:=lie_append.1 h
  obtain ⟨l3,l4,l5,-⟩:=lie_append (a:=[syp zc r.1]) (b:=[(r.2 - (tms r.1).1,(tms r.1).2)]) |>.1 l1
  rw [exr] at hN
  have hlen:=exr_length q (l ++ List.replicate r.2 (tol r.1 l))
  rw [hN,List.length_append,List.length_replicate] at hlen
  have ht:=tms_le r.1
  simp only [pl,syp,Nat.add_zero] at l4 l5
  rw [lnF,if_pos (by omega),sym_at gc.ok gc.wt (getD_lt h3) h3 l3]
  simp only [Int.toNat_natCast]
  rw [if_neg (by intro ⟨a,b⟩;have:=h4 (by omega);omega),if_pos l4,l5,show (tms r.1).1+(r.2 - (tms r.1).1)=r.2 by omega,if_neg (by omega)]
  have e9:p+(zc.getD r.1 0).toNat+(tms r.1).2=p+pl [syp zc r.1,(r.2 - (tms r.1).1,(tms r.1).2)]:=by simp only [pl,syp];omega
  rw [e9,ih f _ _ h5 hN (by omega) l2,exr,pl_append,Nat.add_assoc]
def ops (zc:List Int) (k:Nat):List (Nat × Nat):=(List.range k).map fun j => ((zc.getD (ord.getD j 0) 0).toNat,3)
theorem ops_succ (zc:List Int) (k:Nat):ops zc (k+1)=ops zc k ++ [((zc.getD (ord.getD k 0) 0).toNat,3)]:=by
 unfold ops
 rw [List.range_succ,List.map_append]
 rfl
theorem ops_pl (zc:List Int) (k:Nat):pl (ops zc k)=3*k:=by
 induction k with
 | zero => rfl
 | succ k ih => rw [ops_succ,pl_append,ih];simp only [pl];omega
theorem ops_fit (zc:List Int) (k:Nat) (h:∀ i,zc.getD i 0<=7):fit (ops zc k):=fun x hx => by
 simp only [ops,List.mem_map] at hx
 obtain ⟨j,-,rfl⟩:=hx
 have:=h (ord.getD j 0)
 simp only
 omega
theorem clF_len19 (s:ByteArray) (p k:Nat):(clF s p k).length=19:=by
 induction k with
 | zero => rfl
 | succ k ih => rw [clF,List.length_set,ih]
theorem clF_at {s:ByteArray} {p:Nat} (zc:List Int) (h0:∀ i,0<=zc.getD i 0) (k:Nat) (hk:k<=19) (h:Lie s p (ops zc k)) (i:Nat):(clF s p k).getD i 0=if i ∈ ord.take k then zc.getD i 0 else 0:=by
 induction k with
 | zero =>
  rw [clF,List.take_zero,if_neg (by simp)]
  by_cases hi:i < 19
  ·rw [List.getD_eq_getElem?_getD,List.getElem?_replicate,if_pos hi];rfl
  ·rw [List.getD_eq_getElem?_getD,List.getElem?_eq_none (by simp;omega)];rfl
 | succ k ih =>
  rw [ops_succ] at h
  obtain ⟨l1,-,l3,-⟩:=lie_append.1 h
  rw [ops_pl] at l3
  simp only at l3
  have hl:=clF_len19 s p k
  have ho:(ord.getD k 0) < 19:=by
   have:∀ k,k < 19->ord.getD k 0 < 19:=by decide
   exact this k (by omega)
  have ht:ord.take (k+1)=ord.take k ++ [ord.getD k 0]:=by
   have:∀ k,k < 19->ord.take (k+1)=ord.take k ++ [ord.getD k 0]:=by decide
   exact this k (by omega)
  have ih:=ih (by omega) l1
  have hz:=h0 (ord.getD k 0)
  rw [clF,ht,List.getD_eq_getElem?_getD,List.getElem?_set,hl,l3]
  by_cases e:ord.getD k 0=i
  ·rw [if_pos e,if_pos ho,e,if_pos (by simp)]
   rw [e] at hz
   simp only [Option.getD_some]
   omega
  ·rw [if_neg e,<- List.getD_eq_getElem?_getD,ih]
   have e':¬ i=ord.getD k 0:=fun x => e x.symm
   simp only [List.mem_append,List.mem_singleton,e',or_false]
theorem clF_all {s:ByteArray} {p:Nat} (zc:List Int) (hl:zc.length=19) (h0:∀ i,0<=zc.getD i 0) (k:Nat) (hk:k<=19) (hz:∀ j,k<=j->j < 19->zc.getD (ord.getD j 0) 0=0) (h:Lie s p (ops zc k)):clF s p k=zc:=by
 apply List.ext_getElem?
 intro i
 by_cases hi:i < 19
 ·have h1:=clF_at zc h0 k hk h i
  have hl':=clF_len19 s p k
  have h2:zc.getD i 0=(clF s p k).getD i 0:=by
   rw [h1]
   split
   ·rfl
   ·rename_i hn
    have:∀ i,i < 19 -> ∃ j,j < 19 /\ ord.getD j 0=i /\ ∀ k,k<=19->(i ∈ ord.take k ∨ k<=j):=by decide
    obtain ⟨j,j1,j2,j3⟩:=this i hi
    have:=hz j ((j3 k hk).resolve_left hn) j1
    rw [j2] at this
    exact this
  rw [List.getElem?_eq_getElem (by omega),List.getElem?_eq_getElem (by omega)]
  simp only [List.getD_eq_getElem?_getD] at h2
  rw [List.getElem?_eq_getElem (by omega),List.getElem?_eq_getElem (by omega)] at h2
  simp only [Option.getD_some] at h2
  rw [h2]
 ·rw [List.getElem?_eq_none (by rw [clF_len19];omega),List.getElem?_eq_none (by omega)]
def hps (za zb zc:List Int) (k:Nat) (q:List (Nat × Nat)):List (Nat × Nat):=[(za.length - 257,5),(zb.length - 1,5),(k - 4,4)] ++ ops zc k ++ rps zc q
structure Head (za zb zc:List Int) (k:Nat) (q:List (Nat × Nat)):Prop where
 la:257<=za.length /\ za.length<=286
 lb:1<=zb.length /\ zb.length<=30
 lc:zc.length=19
 c7:∀ i,0<=zc.getD i 0 /\ zc.getD i 0<=7
 ful:wt zc=32768
 k4:4<=k /\ k<=19
 kz:∀ j,k<=j->j < 19->zc.getD (ord.getD j 0) 0=0
 runs:okr zc q []
 says:exr q []=za ++ zb
 ends:0 < za.getD 256 0
 mayA:mayL za=true
 mayB:mayS zb=true
theorem any_nl {zs:List Int} (h:∀ i,0<=zs.getD i 0 /\ zs.getD i 0<=15):zs.any nl=false:=by
 rw [List.any_eq_false]
 intro z hz
 obtain ⟨i,hi,rfl⟩:=List.mem_iff_getElem.1 hz
 have:=h i
 rw [List.getD_eq_getElem?_getD,List.getElem?_eq_getElem hi] at this
 simp only [Option.getD_some] at this
 simp [nl]
 omega
theorem Head.good {za zb zc:List Int} {k:Nat} {q:List (Nat × Nat)} (h:Head za zb zc k q):Good zc:=⟨any_nl fun i => by have:=h.c7 i;omega,by rw [h.ful];omega⟩
theorem hps_fit {za zb zc:List Int} {k:Nat} {q:List (Nat × Nat)} (h:Head za zb zc k q):fit (hps za zb zc k q):=by
 have:=h.la;have:=h.lb;have:=h.k4
 exact fit_append (fit_append (fit_cons (by simp only;omega) (fit_cons (by simp only;omega) (fit_cons (by simp only;omega) fit_nil))) (ops_fit zc k fun i => (h.c7 i).2)) (rps_fit h.runs)
theorem owF_at {s:ByteArray} {za zb zc:List Int} {k:Nat} {q:List (Nat × Nat)} (H:Head za zb zc k q) (p:Nat) (h:Lie s p (hps za zb zc k q)):owF s p = .ok za zb (p+pl (hps za zb zc k q)):=by
 have a1:=H.la
 have a2:=H.lb
 have a3:=H.k4
 unfold hps at h ⊢
 obtain ⟨h1,h2⟩:=lie_append.1 h
 obtain ⟨⟨b1,b2,b3,b4,b5,b6,-⟩,h3⟩:=lie_append.1 h1
 simp only [pl,pl_append,ops_pl] at b1 b2 b3 b4 b5 b6 h2 h3
 rw [show p+5+5=p+10 by omega] at b6 b5
 have hz:=clF_all zc H.lc (fun i => (H.c7 i).1) k a3.2 H.kz h3
 have hm:=exr_many q [] H.runs
 have hN:(exr q []).length=za.length+zb.length:=by rw [H.says,List.length_append]
 have e1:257+(za.length - 257)=za.length:=by omega
 have e2:1+(zb.length - 1)=zb.length:=by omega
 have e3:4+(k - 4)=k:=by omega
 have hq:pl (ops zc k)=3*k:=ops_pl zc k
 have hlie:=h3
 have hin:p+14+3*k<=8*s.size:=by
  obtain ⟨m,rfl⟩:∃ m,k=m+1:=⟨k - 1,by omega⟩
  rw [ops_succ] at hlie
  obtain ⟨-,i2,-⟩:=lie_append.1 hlie
  rw [ops_pl] at i2
  simp only at i2
  omega
 unfold owF
 rw [if_pos (by omega),b2,b4,b6,e1,e2,e3,if_neg (by omega),if_pos hin]
 rw [show p+(5+(5+(4+0)))=p+14 by omega] at hz
 rw [hz,if_pos H.ful,lnF_at H.good (za.length+zb.length) q _ _ [] H.runs hN (by simp only [List.length_nil] at hm;omega) (by rw [show p+14+3*k=p+(5+(5+(4+0))+3*k) by omega];exact h2)]
 simp only
 rw [H.says]
 have e4:(za ++ zb).take za.length=za:=by rw [List.take_left]
 have e5:(za ++ zb).drop za.length=zb:=by rw [List.drop_left]
 have e6:(za ++ zb).getD 256 0=za.getD 256 0:=by
  rw [List.getD_eq_getElem?_getD,List.getD_eq_getElem?_getD,List.getElem?_append_left (by omega)]
 have:=H.ends
 have e7:p+14+3*k+pl (rps zc q)=p+pl ([(za.length - 257,5),(zb.length - 1,5),(k - 4,4)] ++ ops zc k ++ rps zc q):=by simp only [pl,pl_append,ops_pl];omega
 rw [e4,e5,e6,if_pos ⟨by omega,H.mayA,H.mayB⟩,e7]
/-! blocks -/
theorem zfa_good:Good zfa:=⟨by decide +kernel,by decide +kernel⟩
theorem zfb_good:Good zfb:=⟨by decide +kernel,by decide +kernel⟩
inductive Bl:Nat->List UInt8->Bool->List UInt8->List (Nat × Nat)->Prop where
 | raw (p:Nat) (t:List UInt8) (b:Bool) (u:List UInt8) (h:u.length<=65535):Bl p t b u ([(b.toNat,1),(0,2)] ++ asp (p+3) u)
 | fix (p:Nat) (t:List UInt8) (b:Bool) (u:List UInt8) (ws:List Wd) (h:okw zfa zfb ws t.length) (hx:exw ws t=t ++ u):Bl p t b u ([(b.toNat,1),(1,2)] ++ wps zfa zfb ws)
 | own (p:Nat) (t:List UInt8) (b:Bool) (u:List UInt8) (ws:List Wd) (za zb zc:List Int) (k:Nat) (q:List (Nat × Nat)) (H:Head za zb zc k q) (ga:Good za) (gb:Good zb) (h:okw za zb ws t.length) (hx:exw ws t=t ++ u):Bl p t b u ([(b.toNat,1),(2,2)] ++ (hps za zb zc k q ++ wps za zb ws))
theorem fit2 (b:Bool) (k:Nat) (hk:k < 4):fit [(b.toNat,1),(k,2)]:=fit_cons (by cases b <;> decide) (fit_cons hk fit_nil)
theorem Bl.fit {p:Nat} {t:List UInt8} {b:Bool} {u:List UInt8} {ps:List (Nat × Nat)} (h:Bl p t b u ps):fit ps:=by
 cases h with
 | raw h => exact fit_append (fit2 b 0 (by omega)) (asp_fit _ _ h)
 | fix ws h hx => exact fit_append (fit2 b 1 (by omega)) (wps_fit h)
 | own ws za zb zc k q H ga gb h hx => exact fit_append (fit2 b 2 (by omega)) (fit_append (hps_fit H) (wps_fit h))
theorem wps_many {za zb:List Int} (ws:List Wd) (n:Nat) (h:okw za zb ws n):ws.length < pl (wps za zb ws):=by
 induction ws generalizing n with
 | nil => have h:0 < za.getD 256 0:=h;simp only [wps,pl,syp,List.length_nil];omega
 | cons x r ih =>
  have:=ih _ h.2
  rw [wps,pl_append,List.length_cons]
  have h1:=h.1
  cases x with
  | lit b => have h1:0 < za.getD b.toNat 0:=h1;simp only [wp1,pl,syp];omega
  | mat c b => obtain ⟨-,-,-,-,-,h6,h7⟩:=h1;simp only [wp1,pl,syp];omega
theorem lie_end {s:ByteArray} {p:Nat} {l:List (Nat × Nat)} (h:Lie s p l) (h0:p<=8*s.size):p+pl l<=8*s.size:=by
 induction l generalizing p with
 | nil => exact h0
 | cons x l ih => rw [pl,<- Nat.add_assoc];exact ih h.2.2 h.1
theorem blF_at {M:Int} {s:ByteArray} {p:Nat} {t:List UInt8} {b:Bool} {u:List UInt8} {ps:List (Nat × Nat)} (h:Bl p t b u ps) (hM:((t.length+u.length:Nat):Int)<=M) (hl:Lie s p ps) (f:Nat) :
  blF M s (f+1) p t=if b=true then .ok (p+pl ps) (t ++ u) else blF M s f (p+pl ps) (t ++ u):=by
 have key:∀ k R,ps=[(b.toNat,1),(k,2)] ++ R->k < 4->(bkF M s k (p+3) t = .ok (p+3+pl R) (t ++ u))->blF M s (f+1) p t=if b=true then .ok (p+pl ps) (t ++ u) else blF M s f (p+pl ps) (t ++ u):=by
  intro k R e hk hb
  subst e
  obtain ⟨⟨h1,h2,h3,h4,-⟩,-⟩:=lie_append.1 hl
  simp only at h1 h2 h3 h4
  have e1:val s p 1=bitAt s p:=by simp [val]
  rw [e1] at h2
  have e2:p+3+pl R=p+pl ([(b.toNat,1),(k,2)] ++ R):=by rw [pl_append];simp only [pl];omega
  rw [e2] at hb
  rw [blF,if_pos (by omega),h4,hb]
  simp only
  rw [h2]
  cases b <;> rfl
 have hin:∀ k R,ps=[(b.toNat,1),(k,2)] ++ R->Lie s (p+3) R /\ p+3<=8*s.size:=by
  intro k R e
  subst e
  obtain ⟨⟨h1,h2,h3,h4,-⟩,h5⟩:=lie_append.1 hl
  simp only at h3
  exact ⟨h5,by omega⟩
 cases h with
 | raw h => exact key 0 _ rfl (by omega) (asF_at u t (p+3) h hM (hin 0 _ rfl).1)
 | fix ws h hx =>
  have h1:=hin 1 _ rfl
  have h2:=lie_end h1.1 h1.2
  have h3:=wps_many ws _ h
  refine key 1 _ rfl (by omega) ?_
  have hw:=exw_length ws t
  rw [hx,List.length_append] at hw
  show ltF M zfa zfb s (8*s.size+1) (p+3) t=_
  rw [ltF_at zfa_good zfb_good ws _ (p+3) t h (by omega) (by omega) h1.1,hx]
 | own ws za zb zc k q H ga gb h hx =>
  have h1:=hin 2 _ rfl
  obtain ⟨l1,l2⟩:=lie_append.1 h1.1
  have h2:=lie_end l2 (lie_end l1 h1.2)
  have h3:=wps_many ws _ h
  refine key 2 _ rfl (by omega) ?_
  have hw:=exw_length ws t
  rw [hx,List.length_append] at hw
  show (match owF s (p+3) with
    | .no e => Tx.no e t
    | .ok za zb q => ltF M za zb s (8*s.size+1) q t)=_
  rw [owF_at H (p+3) l1]
  simp only
  rw [ltF_at ga gb ws _ _ t h (by omega) (by omega) l2,hx,pl_append]
  simp only [Nat.add_assoc]
inductive Tells:Nat->Nat->Nat->List UInt8->Prop where
 | nil:Tells 0 0 0 []
 | more (n V L:Nat) (t u:List UInt8) (ps:List (Nat × Nat)) (h:Tells n V L t) (hb:Bl L t false u ps):Tells (n+1) (V+2 ^ L*pv ps) (L+pl ps) (t ++ u)
theorem Tells.lt {n V L:Nat} {t:List UInt8} (h:Tells n V L t):V < 2 ^ L:=by
 induction h with
 | nil => decide
 | more n V L t u ps h hb ih =>
  have h1:=pv_lt hb.fit
  rw [Nat.pow_add]
  have h3:2 ^ L*(pv ps+1)<=2 ^ L*2 ^ pl ps:=Nat.mul_le_mul_left _ h1
  rw [Nat.mul_add] at h3
  omega
theorem Bl.three {p:Nat} {t:List UInt8} {b:Bool} {u:List UInt8} {ps:List (Nat × Nat)} (h:Bl p t b u ps):3<=pl ps:=by
 cases h <;> (rw [pl_append];simp only [pl];omega)
theorem Tells.many {n V L:Nat} {t:List UInt8} (h:Tells n V L t):3*n<=L:=by
 induction h with
 | nil => omega
 | more n V L t u ps h hb ih => have:=hb.three;omega
theorem Tells.reads {M:Int} {s:ByteArray} {n V L:Nat} {t:List UInt8} (h:Tells n V L t) (hp:Pre s V L) (hM:(t.length:Int)<=M) (f:Nat):blF M s (f+n) 0 []=blF M s f L t:=by
 induction h generalizing f with
 | nil => rfl
 | more n V L t u ps h hb ih =>
  obtain ⟨h1,h2⟩:=Pre.back hb.fit h.lt hp
  rw [List.length_append] at hM
  rw [<- Nat.add_assoc,show f+n+1=(f+1)+n by omega,ih h1 (by omega),blF_at hb (by omega) h2 f,if_neg (by decide)]
theorem Tells.ends {M:Int} {s:ByteArray} {n V L:Nat} {t u:List UInt8} {ps:List (Nat × Nat)} (h:Tells n V L t) (hb:Bl L t true u ps) (hp:Pre s (V+2 ^ L*pv ps) (L+pl ps)) (hM:((t.length+u.length:Nat):Int)<=M):inF s M = .ok (L+pl ps) (t ++ u):=by
 obtain ⟨h1,h2⟩:=Pre.back hb.fit h.lt hp
 have h3:=h.many
 have h4:=hb.three
 have h5:=hp.1
 unfold inF
 obtain ⟨f,hf⟩:∃ f,8*s.size+1=(f+1)+n:=⟨8*s.size - n,by omega⟩
 rw [hf,h.reads h1 (by omega),blF_at hb hM h2 f,if_pos rfl]
end Go.Proofs.YthdmjmnkhlpnnabGreatDoor
