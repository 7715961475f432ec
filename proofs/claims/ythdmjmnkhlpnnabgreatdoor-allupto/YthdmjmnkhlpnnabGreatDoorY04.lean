import Derived.Test.YthdmjmnkhlpnnabGreatDoorY03
import Derived.Test.YthdmjmnkhlpnnabGreatDoorZ13
namespace Go.Proofs.YthdmjmnkhlpnnabGreatDoor
open Go.RowKit
def Coder (w:World) (zs:List Int) (v:Value):Prop:=∃ sv base,v = .agg (cd4 (cF zs) (fun j => cnt zs j) (cA zs) sv) /\ w.ownsRow base 3 1 sv (plc zs 15) (ivs (st zs 15))
theorem Coder.kp {B:Nat} {w w':World} {zs:List Int} {v:Value} (h:Coder w zs v) (hk:Kp 143 B w w'):Coder w' zs v:=by
 obtain ⟨sv,base,h1,h2⟩:=h
 exact ⟨sv,base,h1,own_kp h2 hk (.inr rfl)⟩
theorem Coder.below {w w':World} {zs:List Int} {v:Value} (h:Coder w zs v) (hb:Below w.heap.size w w'):Coder w' zs v:=by
 obtain ⟨sv,base,h1,h2⟩:=h
 obtain ⟨g1,g2⟩:=h2
 refine ⟨sv,base,h1,g1,?_⟩
 rcases g2 with h2 | ⟨g,cap,cur,hv,hg,hh,r⟩
 ·exact Or.inl h2
 ·exact Or.inr ⟨g,cap,cur,hv,hg,(hb.block g (Array.getElem?_eq_some_iff.1 hh).1).trans hh,r⟩
def Rtd (B:Nat) (s:ByteArray) (tv:Value) (t:List UInt8) (M:Int) (r:Rs) (w:World) (e:Ending) (w':World):Prop :=
 match r with
 | .ok v q => e = .returned (.int .i64 v) /\ Rf w' B s q tv t M 0 /\ Kp 143 B w w'
 | .no k => e = .returned (.int .i64 0) /\ (∃ p',Rf w' B s p' tv t M k) /\ Kp 143 B w w'
set_option maxRecDepth 20000 in
set_option maxHeartbeats 3200000 in
theorem rsym_any (w:World) (B:Nat) (s:ByteArray) (p:Nat) (tv:Value) (t:List UInt8) (M:Int) (zs:List Int) (sv:Value) (base:Nat) (h:Rf w B s p tv t M 0) (ho:w.ownsRow base 3 1 sv (plc zs 15) (ivs (st zs 15))) (hm:zs.length<=320) :
  Calls Tryz.prog 136 #[.pointer (some ⟨B,0,none⟩),.agg (cd4 (cF zs) (fun j => cnt zs j) (cA zs) sv)] w fun e w' => Rtd B s tv t M (sym zs s p) w e w':=by
 have HR:=hid h
 have HO:=hid ho
 have hfit:=h.fit
 have hlt:=h.lt
 obtain ⟨so,sc,rfl⟩:=own_shape ho
 clear h ho
 obtain ⟨o,ho⟩:∃ o:Obj,o=Obj.cells (cd4 (cF zs) (fun j => (cnt zs j:Int)) (cA zs) (.slice so (plc zs 15) sc)) 146:=⟨_,rfl⟩
 have HBX:Hid ((w.alloc o).heap[w.heap.size]? = some (.cells (cd4 (cF zs) (fun j => (cnt zs j:Int)) (cA zs) (.slice so (plc zs 15) sc)) 146 (0,0))):=by show _=_;rw [heap_alloc_new w o,ho]
 have HR0:=hid (HR.out.alloc o)
 have HO0:=hid (HO.out.alloc o)
 have HK0:Hid (Kp 143 B w (w.alloc o)):=(Kp.refl _ _ _).alloc (Nat.le_of_lt hlt) o
 have hfs:∀ j,j<=15->fst zs j<=20971520:=fun j hj => fst_le' zs hm j hj
 have HFS:=hid hfs
 clear hfs HR HO
 go_enter Tryz.func136,Tryz.ntmps136
 go_wp2
 rw [<- ho]
 clear ho
 go_loopw [5,6] (fun vv nv wr => ∃ (k ab q:Nat),k<=15 /\ ab < 2 ^ k /\ q<=8*s.size /\ nv = .int .i64 ((k+1:Nat):Int) /\ vv = .int .i64 ((fst zs k+cnt zs k+ab:Nat):Int) /\ Hid (sym zs s p=symF zs s (15 - k) k ab q) /\ Hid (Rf wr B s q tv t M 0) /\ Kp 143 B (w.alloc o) wr) (fun _ nv _ => 17 - (intOf nv).toNat)
 case atStart => exact ⟨0,0,p,by omega,by omega,hfit,rfl,rfl,rfl,HR0,Kp.refl _ _ _⟩
 case round =>
  obtain ⟨k,ab,q,hk,hab,hq,rfl,rfl,hS,hr,hK⟩:=hrel
  have hpw:2 ^ k<=2 ^ 15:=Nat.pow_le_pow_right (by omega) hk
  have hpe:(2:Nat) ^ 15=32768:=by decide
  have habb:ab < 32768:=by omega
  have hps:2 ^ (k+1)=2*2 ^ k:=by rw [Nat.pow_succ];omega
  obtain ⟨n,hn⟩:∃ n,n=k+1:=⟨_,rfl⟩
  obtain ⟨v,hv⟩:∃ v,v=fst zs k+cnt zs k+ab:=⟨_,rfl⟩
  have hvb:v<=22000000:=by have h1:=HFS.out k hk;have h2:=cnt_le zs k;omega
  rw [<- hn,<- hv]
  have HNN:=hid hn
  have HV:=hid hv
  have HPS:=hid hps
  clear hpw hpe hv hps
  by_cases hlt15:k < 15
  ·have hn15:n<=15:=by omega
   have hn1:1<=n:=by omega
   clear hn
   by_cases hbit:q < 8*s.size
   ·obtain ⟨d,hd⟩:∃ d,d=bitAt s q:=⟨_,rfl⟩
    have hd2:d < 2:=by rw [hd];exact bitAt_lt _ _
    have HD:=hid hd
    obtain ⟨y,hy⟩:∃ y:Nat,y=cnt zs n:=⟨_,rfl⟩
    obtain ⟨f,hf⟩:∃ f:Nat,f=fst zs n:=⟨_,rfl⟩
    have hfv:f+(2*ab+d)=2*v+d:=by rw [hf,HNN.out,HV.out,fst];omega
    have hfb:f<=20971520:=by rw [hf];exact HFS.out n hn15
    have hyb:y<=320:=by rw [hy];have:=cnt_le zs n;omega
    have HY:=hid hy
    have HF:=hid hf
    clear hd hy hf
    go_wp2_with (go_at_call 83;refine (rbit_ok _ _ _ _ _ _ _ hr.out hbit).mono ?_;rintro e w2 ⟨rfl,hr2,hk2⟩;rw [<- HD.out];have e4:=hr2.cell.2.2.2.2.1;have HR2:=hid hr2;clear hr2)
    have hcd:Cd4 w2 w.heap.size (cF zs) (fun j => (cnt zs j:Int)) (cA zs) (.slice so (plc zs 15) sc):=(hK.trans hk2).cells HBX.out (by decide) (by decide)
    obtain ⟨cf,cm,ca,cs,-⟩:=hcd.cell
    have cm':=cm n (by omega)
    have cf':=cf n (by omega)
    have ca':=ca n (by omega)
    rw [<- HY.out] at cm'
    unfold cA at ca'
    rw [if_neg (by omega)] at ca'
    unfold cF at cf'
    rw [<- HY.out,<- HF.out] at cf'
    clear cf cm ca hcd
    have HFV:=hid hfv
    clear hfv
    have HSF:Hid (15 - k=(15 - (k+1))+1):=by show _=_;omega
    have HMISS:Hid (¬ 2*ab+d < y->sym zs s p=symF zs s (15 - n) n (2*ab+d - y) (q+1)):=fun hm' => by
     have hy:=HY.out
     have hnn:=HNN.out
     have hd:=HD.out
     subst hnn hy hd
     rw [hS.out,HSF.out,symF_miss zs s _ k ab q hbit hm']
    have HKT:Hid (Kp 143 B (w.alloc o) w2):=hK.trans hk2
    clear hk2
    by_cases hy0:0 < y
    ·rw [if_pos hy0] at cf'
     have b1:decide ((0:Int) < (y:Int))=true:=by simp;omega
     have b2:decide ((f:Int)<=2*(v:Int)+(d:Int))=true:=by simp;have:=HFV.out;omega
     by_cases hhit:2*ab+d < y
     ·have b3:decide (2*(v:Int)+(d:Int) < (f:Int)+(y:Int))=true:=by simp;have:=HFV.out;omega
      obtain ⟨P,hP⟩:∃ P,P=plc zs (n - 1):=⟨_,rfl⟩
      obtain ⟨N,hN⟩:∃ N,N=plc zs 15:=⟨_,rfl⟩
      obtain ⟨I,hI⟩:∃ I,I=P+(2*ab+d):=⟨_,rfl⟩
      have hIN:I < N:=by rw [hI,hP,hN];exact plc_lt zs n _ (by omega) hn15 (by rw [<- HY.out];exact hhit)
      have hN3:N<=320:=by rw [hN];exact Nat.le_trans (plc_le zs 15) hm
      obtain ⟨so',sc',he,hsg⟩:=owns_seg (own_kp HO0.out HKT.out (.inr rfl))
      injection he with e1 _ _
      subst e1
      obtain ⟨g,off,rfl,hcl⟩:=hsg (by rw [st_length];omega)
      have ci:=hcl I (by rw [st_length];omega)
      rw [hI,hP,st_get zs 15 n (2*ab+d) (by omega) hn15 (by rw [<- HY.out];exact hhit),<- hP,<- hI] at ci
      rw [<- hP] at ca'
      rw [<- hN] at cs
      obtain ⟨z,hz⟩:∃ z,z=sy zs n (2*ab+d):=⟨_,rfl⟩
      rw [<- hz] at ci
      have w1':IntKind.i64.wrap ((P:Int)+(2*(v:Int)+(d:Int)))=(P:Int)+(2*(v:Int)+(d:Int)):=by rw [IntKind.wrap_i64];omega
      have w2':IntKind.i64.wrap ((P:Int)+(2*(v:Int)+(d:Int)) - (f:Int))=(I:Int):=by rw [IntKind.wrap_i64];have:=HFV.out;omega
      have w3':IntKind.i64.wrap ((f:Int)+(y:Int))=(f:Int)+(y:Int):=by rw [IntKind.wrap_i64];omega
      have HIT:Hid (sym zs s p = .ok z (q+1)):=by
       have hy:=HY.out
       have hnn:=HNN.out
       have hd:=HD.out
       show _=_
       rw [hz,hS.out,HSF.out,symF_hit zs s _ k ab q hbit (by rw [<- hd,<- hnn,<- hy];exact hhit),<- hd,<- hnn]
      clear hP hN hI hcl hsg hz e4
      go_wp2
      go_quiet (fail)
      go_wp2
      go_quiet (fail)
      go_wp2
      go_ret
      rw [HIT.out]
      exact ⟨rfl,(HR2.out.drewN _).drewN _,((HK0.out.trans HKT.out).drewN _).drewN _⟩
     ·have b3:decide (2*(v:Int)+(d:Int) < (f:Int)+(y:Int))=false:=by simp;have:=HFV.out;omega
      have w3':IntKind.i64.wrap ((f:Int)+(y:Int))=(f:Int)+(y:Int):=by rw [IntKind.wrap_i64];omega
      clear e4 ca' cs
      go_wp2
      go_quiet (fail)
      go_wp2
      refine ⟨⟨k+1,2*ab+d - y,q+1,by omega,by have:=HPS.out;omega,by omega,by rw [<- HNN.out];go_num,int_eq ?_,?_,HR2.out.drewN _,HKT.out.drewN _⟩,by simp [intOf];omega⟩
      ·rw [<- HNN.out,<- HY.out,<- HF.out];have:=HFV.out;omega
      ·rw [<- HNN.out];exact HMISS.out hhit
    ·have b1:decide ((0:Int) < (y:Int))=false:=by simp;omega
     have hhit:¬ 2*ab+d < y:=by omega
     clear e4 ca' cs cf'
     go_wp2
     go_quiet (fail)
     go_wp2
     refine ⟨⟨k+1,2*ab+d - y,q+1,by omega,by have:=HPS.out;omega,by omega,by rw [<- HNN.out];go_num,int_eq ?_,?_,HR2.out.drewN _,HKT.out.drewN _⟩,by simp [intOf];omega⟩
     ·rw [<- HNN.out,<- HY.out,<- HF.out];have:=HFV.out;omega
     ·rw [<- HNN.out];exact HMISS.out hhit
   ·have HN:Hid (sym zs s p = .no 1):=by show _=_;rw [hS.out,show 15 - k=(15 - (k+1))+1 by omega,symF_end zs s _ k ab q hbit]
    go_wp2_with (go_at_call 83;refine (rbit_no _ _ _ _ _ _ _ hr.out hbit).mono ?_;rintro e w2 ⟨rfl,hr2,hk2⟩;have e4:=hr2.cell.2.2.2.2.1;have HR2:=hid hr2;clear hr2)
    go_ret
    rw [HN.out]
    exact ⟨rfl,⟨_,HR2.out⟩,(HK0.out.trans hK).trans hk2⟩
  ·obtain rfl:k=15:=by omega
   have HN:Hid (sym zs s p = .no 4):=by show _=_;rw [hS.out];rfl
   subst hn
   go_wp2_with (go_at_call 89;refine (stop_any _ B s q tv t M 4 hr.out).mono ?_;rintro e w2 ⟨rfl,hr2,hk2⟩)
   go_ret
   rw [HN.out]
   exact ⟨rfl,⟨_,hr2⟩,(HK0.out.trans hK).trans hk2⟩
end Go.Proofs.YthdmjmnkhlpnnabGreatDoor
namespace Go.Proofs.YthdmjmnkhlpnnabGreatDoor
open Go.RowKit
def Rid (B:Nat) (s:ByteArray) (M:Int) (r:Tx) (w:World) (e:Ending) (w':World):Prop :=
 e = .returned (.tuple #[]) /\ (match r with
   | .ok p t => ∃ tv,Rf w' B s p tv t M 0
   | .no k t => ∃ p' tv,Rf w' B s p' tv t M k) /\ Kp 143 B w w'
theorem val8 (s:ByteArray) (a:Nat):val s (8*a) 8=byt s a:=by
 have h:∀ k,k < 8->bitAt s (8*a+k)=byt s a / 2 ^ k % 2:=fun k hk => by
  unfold bitAt
  rw [show (8*a+k) / 8=a by omega,show (8*a+k) % 8=k by omega]
 have hb:=byt_lt s a
 simp only [val]
 rw [h 0 (by omega),h 1 (by omega),h 2 (by omega),h 3 (by omega),h 4 (by omega),h 5 (by omega),h 6 (by omega),h 7 (by omega)]
 generalize byt s a=n at hb ⊢
 omega
theorem put_err (w:World) (B:Nat) (s:ByteArray) (p:Nat) (tv:Value) (t:List UInt8) (M:Int) (E:Nat) (h:Rf w B s p tv t M E) (hE:E ≠ 0) (v:Value) :
  Calls Tryz.prog 134 #[.pointer (some ⟨B,0,none⟩),v] w fun e w' => e = .returned (.tuple #[]) /\ Kp 143 B w w' /\ ∃ n,w'=w.drewN n:=by
 obtain ⟨-,-,c2,c3,c4,-⟩:=h.cell
 have hb:((E:Int) == 0)=false:=by rw [beq_eq_false_iff_ne];omega
 obtain ⟨ao,c,rfl⟩:=h.shape
 clear h hE
 go_enter Tryz.func134,Tryz.ntmps134
 go_wp2
 go_quiet (fail)
 go_wp2
 go_end0
 exact ⟨rfl,(Kp.refl _ _ _).drewN _,_,rfl⟩
set_option maxRecDepth 20000 in
set_option maxHeartbeats 1600000 in
theorem plain_any (w:World) (B:Nat) (s:ByteArray) (p:Nat) (tv:Value) (t:List UInt8) (M:Int) (h:Rf w B s p tv t M 0) :
  Calls Tryz.prog 85 #[.pointer (some ⟨B,0,none⟩)] w fun e w' => Rid B s M (asF M s p t) w e w':=by
 have HR:=hid h
 have hfi:=h.fit
 have hsm:=h.sml
 clear h
 obtain ⟨P,hP⟩:∃ P,P=(p+7) / 8*8:=⟨_,rfl⟩
 have HP:=hid hP
 obtain ⟨L,hL⟩:∃ L,L=asF M s p t:=⟨_,rfl⟩
 rw [<- hL]
 have HL:=hid hL
 clear hP hL
 go_enter Tryz.func85,Tryz.ntmps85
 go_wp2
 go_loopw [6] (fun _ wr => ∃ q:Nat,p<=q /\ q<=P /\ Hid (Rf wr B s q tv t M 0) /\ Kp 143 B w wr) (fun _ wr => P - posR wr B)
 case atStart => exact ⟨p,by omega,by have:=HP.out;omega,HR,Kp.refl _ _ _⟩
 case round =>
  obtain ⟨q,hpq,hqP,hr,hK⟩:=hrel
  obtain ⟨-,c1,-⟩:=hr.out.cell
  have f1:=hr.out.free 1
  have hqf:=hr.out.fit
  have HPO:=hid hr.out.pos
  obtain ⟨y,hy⟩:∃ y,y=q % 8:=⟨_,rfl⟩
  have q2:(q:Int) % 8=(y:Int):=by omega
  by_cases hlt:q < P
  ·have hy0:y ≠ 0:=by have:=HP.out;omega
   have hb:((y:Int) != 0)=true:=by rw [bne_iff_ne];omega
   have hq8:q+1<=8*s.size:=by have:=HP.out;omega
   clear hy
   go_wp2
   have R1:=hr.out.setAt (q+1) (by omega) hq8
   rw [show ((q+1:Nat):Int)=(q:Int)+1 by omega] at R1
   refine ⟨⟨q+1,by omega,by omega,R1,hK.setRf hr.out _ _⟩,?_⟩
   rw [show posR _ B=q+1 from R1.pos,HPO.out]
   omega
  ·obtain rfl:q=P:=by omega
   have hy0:y=0:=by have:=HP.out;omega
   have q3:(q:Int) % 8=0:=by omega
   have hb:((0:Int) != 0)=false:=by decide
   clear hy q2 hy0 HPO HR
   by_cases h16:q+16<=8*s.size
   ·obtain ⟨x,hx⟩:∃ x,x=val s q 16:=⟨_,rfl⟩
    have hxl:x < 65536:=by have:=val_lt s q 16;rw [hx];exact this
    have HX:=hid hx
    clear hx
    by_cases h32:q+16+16<=8*s.size
    ·obtain ⟨y,hy⟩:∃ y,y=val s (q+16) 16:=⟨_,rfl⟩
     have hyl:y < 65536:=by have:=val_lt s (q+16) 16;rw [hy];exact this
     have HY:=hid hy
     clear hy
     by_cases heq:(y:Int)=65535 - (x:Int)
     ·have hbb:((x:Int) != 65535 - (y:Int))=false:=by
       have:(x:Int)=65535 - (y:Int):=by omega
       simp [this]
      obtain ⟨A,hA⟩:∃ A,A=(p+7) / 8+4:=⟨_,rfl⟩
      have hPA:q+16+16=8*A:=by have:=HP.out;omega
      have HRW:Hid (L=rawF M s x A t):=by
       show _=_
       rw [HL.out,asF_ok (by rw [<- HP.out];omega) (by rw [<- HP.out,<- HX.out,<- HY.out];exact heq),<- HP.out,<- HX.out,<- hA]
      have HPA:=hid hPA
      clear hA hPA heq
      go_wp2_with (go_at_call 84;first | (refine (rnum_ok _ _ _ _ _ _ _ HR2.out 16 (by omega) h32).mono ?_;rintro e w3 ⟨rfl,hr3,hk3⟩;rw [<- HY.out];have e4:=hr3.cell.2.2.2.2.1;have HR3:=hid hr3;clear hr3) | (refine (rnum_ok _ _ _ _ _ _ _ hr.out 16 (by omega) h16).mono ?_;rintro e w2 ⟨rfl,hr2,hk2⟩;rw [<- HX.out];have HR2:=hid hr2;clear hr2))
      have KK:Kp 143 B w w3:=(hK.trans hk2).trans hk3
      have HR3':Hid (Rf w3 B s (8*A) tv t M 0):=by rw [<- HPA.out];exact HR3
      clear e4 hk2 hk3 HR2 HR3
      go_loopw [4,5] (fun iv _ wi => ∃ (i q2 E:Nat) (u:List UInt8),i<=x /\ iv = .int .i64 i /\ Hid (∃ tv',Rf wi B s q2 tv' u M E) /\ (E=0 /\ q2=8*(A+i) /\ Hid (L=rawF M s (x - i) (A+i) u) ∨ E ≠ 0 /\ Hid (L = .no E u)) /\ Kp 143 B w wi) (fun iv _ wi => x - (intOf iv).toNat)
      case atStart => exact ⟨0,_,0,t,by omega,rfl,⟨_,HR3'.out⟩,.inl ⟨rfl,rfl,HRW⟩,KK⟩
      case round =>
       clear HR3' KK HRW c1 f1 hr
       obtain ⟨i,q2,E,u,hi,rfl,hR,hor,hKi⟩:=hrel
       obtain ⟨tv',hR⟩:=hR.out
       have HRr:=hid hR
       have c4:=hR.cell.2.2.2.2.1
       have hrom:=hR.rom
       clear hR
       rcases hor with ⟨rfl,hq2,hL⟩ | ⟨hE,hL⟩
       ·by_cases hlt:i < x
        ·have HF:Hid (x - i=(x - (i+1))+1):=by show _=_;omega
         by_cases hby:A+i < s.size
         ·obtain ⟨z,hz⟩:∃ z,z=byt s (A+i):=⟨_,rfl⟩
          have hz8:z < 256:=by rw [hz];exact byt_lt s _
          have HV:Hid (val s q2 8=z):=by show _=_;rw [hq2,val8,hz]
          have hu:(byu s (A+i)).toNat=z:=by rw [hz];rfl
          have HU:=hid hu
          have HQ2:=hid hq2
          clear hz hu hq2
          by_cases hM:(u.length:Int) < M
          ·have HRW:Hid (L=rawF M s (x - (i+1)) (A+(i+1)) (u ++ [byu s (A+i)])):=by show _=_;rw [hL.out,HF.out,rawF,if_pos hby,if_pos hM];rfl
           go_wp2_with (first | (go_at_call 84;refine (rnum_ok _ _ _ _ _ _ _ HRr.out 8 (by omega) (by have:=HQ2.out;omega)).mono ?_;rintro e w4 ⟨rfl,hr4,hk4⟩;rw [HV.out];have HR4:=hid hr4;clear hr4) | (go_at_call 134;rw [<- HU.out];refine (put_ok _ _ _ _ _ _ _ _ HR4.out hM (by omega)).mono ?_;rintro e w5 ⟨rfl,hr5,hk5⟩))
           exact ⟨⟨i+1,_,0,_,by omega,by go_num,hr5,.inl ⟨rfl,by have:=HQ2.out;omega,HRW⟩,(hKi.trans hk4).trans hk5⟩,by simp [intOf];omega⟩
          ·have HRW:Hid (L = .no 6 u):=by show _=_;rw [hL.out,HF.out,rawF,if_pos hby,if_neg hM]
           go_wp2_with (first | (go_at_call 84;refine (rnum_ok _ _ _ _ _ _ _ HRr.out 8 (by omega) (by have:=HQ2.out;omega)).mono ?_;rintro e w4 ⟨rfl,hr4,hk4⟩;rw [HV.out];have HR4:=hid hr4;clear hr4) | (go_at_call 134;rw [<- HU.out];refine (put_no _ _ _ _ _ _ _ _ HR4.out (by omega)).mono ?_;rintro e w5 ⟨rfl,hr5,hk5⟩))
           exact ⟨⟨i+1,_,6,_,by omega,by go_num,⟨_,hr5⟩,.inr ⟨by omega,HRW⟩,(hKi.trans hk4).trans hk5⟩,by simp [intOf];omega⟩
         ·have HRW:Hid (L = .no 1 u):=by show _=_;rw [hL.out,HF.out,rawF,if_neg hby]
          go_wp2_with (first | (go_at_call 84;refine (rnum_no _ _ _ _ _ _ _ HRr.out 8 (by omega) (by omega)).mono ?_;rintro e w4 ⟨v4,p4,hv4,rfl,hr4,hk4⟩;have HR4:=hid hr4;clear hr4) | (go_at_call 134;refine (put_err _ _ _ _ _ _ _ _ HR4.out (by omega) _).mono ?_;rintro e w5 ⟨rfl,hk5,hr5⟩))
          obtain ⟨nd,hr5⟩:=hr5
          exact ⟨⟨i+1,p4,1,u,by omega,by go_num,⟨tv',by rw [hr5];exact HR4.out.drewN _⟩,.inr ⟨by omega,HRW⟩,(hKi.trans hk4).trans hk5⟩,by simp [intOf];omega⟩
        ·obtain rfl:i=x:=by omega
         go_wp2
         go_end0
         refine ⟨rfl,?_,hKi⟩
         have hL2:=hL.out
         rw [Nat.sub_self] at hL2
         rw [hL2]
         show ∃ tv2,Rf _ _ _ (8*(A+i)) _ _ _ _
         rw [<- hq2]
         exact ⟨_,HRr.out⟩
       ·have hb0:((E:Int) == 0)=false:=by rw [beq_eq_false_iff_ne];omega
        by_cases hlt:i < x
        ·go_wp2
         go_end0
         refine ⟨rfl,?_,hKi⟩
         rw [hL.out]
         exact ⟨_,_,HRr.out⟩
        ·obtain rfl:i=x:=by omega
         go_wp2
         go_end0
         refine ⟨rfl,?_,hKi⟩
         rw [hL.out]
         exact ⟨_,_,HRr.out⟩
     ·have hbb:((x:Int) != 65535 - (y:Int))=true:=by
       rw [bne_iff_ne];omega
      have HRW:Hid (L = .no 2 t):=by
       show _=_
       rw [HL.out,asF_bad (by rw [<- HP.out];omega) (by rw [<- HP.out,<- HX.out,<- HY.out];exact heq)]
      clear heq
      go_wp2_with (first | (go_at_call 84;first | (refine (rnum_ok _ _ _ _ _ _ _ HR2.out 16 (by omega) h32).mono ?_;rintro e w3 ⟨rfl,hr3,hk3⟩;rw [<- HY.out];have e4:=hr3.cell.2.2.2.2.1;have HR3:=hid hr3;clear hr3) | (refine (rnum_ok _ _ _ _ _ _ _ hr.out 16 (by omega) h16).mono ?_;rintro e w2 ⟨rfl,hr2,hk2⟩;rw [<- HX.out];have HR2:=hid hr2;clear hr2)) | (go_at_call 89;refine (stop_any _ _ _ _ _ _ _ 2 HR3.out).mono ?_;rintro e w4 ⟨rfl,hr4,hk4⟩;have HR4:=hid hr4;clear hr4 e4))
      have KK:Kp 143 B w w4:=((hK.trans hk2).trans hk3).trans hk4
      clear hk2 hk3 hk4 HR2 HR3 c1 f1
      go_loopw [4,5] (fun iv _ wi => iv = .int .i64 0 /\ Hid (∃ p' tv',Rf wi B s p' tv' t M 2) /\ Kp 143 B w wi) (fun _ _ _ => 0)
      case atStart => exact ⟨rfl,⟨_,_,HR4.out⟩,KK⟩
      case round =>
       clear HR4 KK
       obtain ⟨rfl,hR,hKi⟩:=hrel
       obtain ⟨p4,tv4,hR⟩:=hR.out
       have HRr:=hid hR
       have c4:=hR.cell.2.2.2.2.1
       clear hR
       by_cases hlt:0 < x
       ·go_wp2
        go_end0
        refine ⟨rfl,?_,hKi⟩
        rw [HRW.out]
        exact ⟨_,_,HRr.out⟩
       ·obtain rfl:x=0:=by omega
        go_wp2
        go_end0
        refine ⟨rfl,?_,hKi⟩
        rw [HRW.out]
        exact ⟨_,_,HRr.out⟩
    ·have HRW:Hid (L = .no 1 t):=by
      show _=_
      rw [HL.out,asF_end (by rw [<- HP.out];omega)]
     go_wp2_with (first | (go_at_call 84;first | (refine (rnum_no _ _ _ _ _ _ _ HR2.out 16 (by omega) h32).mono ?_;rintro e w3 ⟨v3,p3,hv3,rfl,hr3,hk3⟩;have e4:=hr3.cell.2.2.2.2.1;have HR3:=hid hr3;clear hr3) | (refine (rnum_ok _ _ _ _ _ _ _ hr.out 16 (by omega) h16).mono ?_;rintro e w2 ⟨rfl,hr2,hk2⟩;rw [<- HX.out];have HR2:=hid hr2;clear hr2)))
     have KK:Kp 143 B w w3:=(hK.trans hk2).trans hk3
     clear hk2 hk3 HR2 e4 c1 f1
     go_loopw [4,5] (fun iv _ wi => iv = .int .i64 0 /\ Hid (∃ p' tv',Rf wi B s p' tv' t M 1) /\ Kp 143 B w wi) (fun _ _ _ => 0)
     case atStart => exact ⟨rfl,⟨_,_,HR3.out⟩,KK⟩
     case round =>
      clear HR3 KK
      obtain ⟨rfl,hR,hKi⟩:=hrel
      obtain ⟨p4,tv4,hR⟩:=hR.out
      have HRr:=hid hR
      have c4:=hR.cell.2.2.2.2.1
      clear hR
      by_cases hlt:0 < x
      ·go_wp2
       go_end0
       refine ⟨rfl,?_,hKi⟩
       rw [HRW.out]
       exact ⟨_,_,HRr.out⟩
      ·obtain rfl:x=0:=by omega
       go_wp2
       go_end0
       refine ⟨rfl,?_,hKi⟩
       rw [HRW.out]
       exact ⟨_,_,HRr.out⟩
   ·have HRW:Hid (L = .no 1 t):=by
     show _=_
     rw [HL.out,asF_end (by rw [<- HP.out];omega)]
    go_wp2_with (first | (go_at_call 84;first | (refine (rnum_err _ _ _ _ _ _ _ _ HR2.out (by omega) 16 (by omega)).mono ?_;rintro e w3 ⟨rfl,rfl⟩;have e4:=HR2.out.cell.2.2.2.2.1) | (refine (rnum_no _ _ _ _ _ _ _ hr.out 16 (by omega) h16).mono ?_;rintro e w2 ⟨x,p2,hv2,rfl,hr2,hk2⟩;have HR2:=hid hr2;clear hr2)))
    have KK:Kp 143 B w w2:=hK.trans hk2
    clear hk2 e4 c1 f1
    go_loopw [4,5] (fun iv _ wi => iv = .int .i64 0 /\ Hid (∃ p' tv',Rf wi B s p' tv' t M 1) /\ Kp 143 B w wi) (fun _ _ _ => 0)
    case atStart => exact ⟨rfl,⟨_,_,HR2.out⟩,KK⟩
    case round =>
     clear HR2 KK
     obtain ⟨rfl,hR,hKi⟩:=hrel
     obtain ⟨p4,tv4,hR⟩:=hR.out
     have HRr:=hid hR
     have c4:=hR.cell.2.2.2.2.1
     clear hR
     by_cases hlt:0 < x
     ·go_wp2
      go_end0
      refine ⟨rfl,?_,hKi⟩
      rw [HRW.out]
      exact ⟨_,_,HRr.out⟩
     ·obtain rfl:x=0:=by omega
      go_wp2
      go_end0
      refine ⟨rfl,?_,hKi⟩
      rw [HRW.out]
      exact ⟨_,_,HRr.out⟩
end Go.Proofs.YthdmjmnkhlpnnabGreatDoor
namespace Go.Proofs.YthdmjmnkhlpnnabGreatDoor
open Go.RowKit
set_option maxRecDepth 20000 in
set_option maxHeartbeats 1600000 in
theorem rsym_err (w:World) (B:Nat) (s:ByteArray) (p:Nat) (tv:Value) (t:List UInt8) (M:Int) (E:Nat) (zs:List Int) (so:Option Addr) (n sc:Nat) (h:Rf w B s p tv t M E) (hE:E ≠ 0) :
  Calls Tryz.prog 136 #[.pointer (some ⟨B,0,none⟩),.agg (cd4 (cF zs) (fun j => cnt zs j) (cA zs) (.slice so n sc))] w fun e w' => e = .returned (.int .i64 0) /\ Rf w' B s p tv t M E /\ Kp 143 B w w':=by
 have hlt:=h.lt
 obtain ⟨o,ho⟩:∃ o:Obj,o=Obj.cells (cd4 (cF zs) (fun j => (cnt zs j:Int)) (cA zs) (.slice so n sc)) 146:=⟨_,rfl⟩
 have HR0:=hid (h.alloc o)
 have HK0:Hid (Kp 143 B w (w.alloc o)):=(Kp.refl _ _ _).alloc (Nat.le_of_lt hlt) o
 have hb0:((E:Int) == 0)=false:=by rw [beq_eq_false_iff_ne];omega
 have hb1:((E:Int) != 0)=true:=by rw [bne_iff_ne];omega
 have e4:=HR0.out.cell.2.2.2.2.1
 clear h
 go_enter Tryz.func136,Tryz.ntmps136
 go_wp2
 rw [<- ho]
 clear ho
 go_loopw [5,6] (fun vv nv wr => vv = .int .i64 0 /\ nv = .int .i64 1 /\ wr=w.alloc o) (fun _ _ _ => 0)
 case atStart => exact ⟨rfl,rfl,rfl⟩
 case round =>
  obtain ⟨rfl,rfl,rfl⟩:=hrel
  go_wp2_with (go_at_call 83;refine (rbit_err _ _ _ _ _ _ _ _ HR0.out hE).mono ?_;rintro e w2 ⟨rfl,rfl⟩)
  go_ret
  exact ⟨rfl,HR0.out,HK0.out⟩
def spr (g f:Nat):Nat->Nat × Nat
 | 0 => (f,0)
 | k+1 => ((spr g f k).1+2 ^ (spr g f k).2,if 2*g<=k+1 /\ (k+1) % g=0 then (spr g f k).2+1 else (spr g f k).2)
theorem spr_agn:∀ k,k<=28->k ≠ 28->spr 4 3 k=agn k:=by decide
theorem spr_bck:∀ k,k<=29->spr 2 1 k=bck k:=by decide
theorem spr_le4:∀ k,k<=29->(spr 4 3 k).1<=100000 /\ (spr 4 3 k).2<=14:=by decide
theorem spr_le2:∀ k,k<=29->(spr 2 1 k).1<=100000 /\ (spr 2 1 k).2<=14:=by decide
set_option maxHeartbeats 800000 in
theorem spread_any (w:World) (i g f:Nat) (hi:i<=29) (hg:g=2 ∨ g=4) (hb:∀ k,k<=29->(spr g f k).1<=100000 /\ (spr g f k).2<=14) :
  Calls Tryz.prog 177 #[.int .i64 i,.int .i64 g,.int .i64 f] w fun e w' => e = .returned (.tuple #[.int .i64 (spr g f i).1,.int .i64 (spr g f i).2]) /\ w=w':=by
 have HB:=hid hb
 have g2:2<=g:=by omega
 have g4:g<=4:=by omega
 clear hb hg
 go_enter Tryz.func177,Tryz.ntmps177
 go_wp2
 go_loop [8,9,10] (fun bv vv kv => ∃ (k b v:Nat),k<=i /\ kv = .int .i64 k /\ bv = .int .i64 b /\ vv = .int .i64 v /\ Hid (spr g f k=(v,b))) (fun _ _ kv => i - (intOf kv).toNat)
 case atStart => exact ⟨0,0,f,by omega,rfl,rfl,rfl,rfl⟩
 case round =>
  obtain ⟨k,b,v,hk,rfl,rfl,rfl,hS⟩:=hrel
  have hB:=HB.out k (by omega)
  rw [hS.out] at hB
  simp only at hB
  obtain ⟨hv,hb⟩:=hB
  by_cases hlt:k < i
  ·obtain ⟨x,hx⟩:∃ x:Nat,x=2 ^ b:=⟨_,rfl⟩
   have hx2:x<=32768:=by rw [hx];exact Nat.le_trans (Nat.pow_le_pow_right (by omega) hb) (by decide)
   have HX:=hid hx
   clear hx
   by_cases h1:2*g<=k+1
   ·have b1:decide (2*(g:Int)<=(k:Int)+1)=true:=by simp;omega
    by_cases h2:(k+1) % g=0
    ·have b2:(((k:Int)+1) % (g:Int) == 0)=true:=by
      rw [beq_iff_eq]
      have:(((k+1) % g:Nat):Int)=0:=by rw [h2];rfl
      rw [<- this];simp
     go_wp2_with (go_at_call 96;refine (power_any _ _ (by omega) (by omega)).mono ?_;rintro e w2 ⟨rfl,rfl⟩;rw [show ((b:Int)).toNat=b by omega,<- HX.out])
     have HN:Hid (spr g f (k+1)=(v+x,b+1)):=by show _=_;rw [spr,hS.out,if_pos ⟨h1,h2⟩,HX.out]
     exact ⟨⟨k+1,b+1,v+x,by omega,by go_num,by go_num,by go_num,HN⟩,by simp [intOf];omega⟩
    ·have b2:(((k:Int)+1) % (g:Int) == 0)=false:=by
      rw [beq_eq_false_iff_ne]
      have:(((k+1) % g:Nat):Int) ≠ 0:=by omega
      simpa using this
     have HN:Hid (spr g f (k+1)=(v+x,b)):=by show _=_;rw [spr,hS.out,if_neg (fun h => h2 h.2),HX.out]
     go_wp2_with (go_at_call 96;refine (power_any _ _ (by omega) (by omega)).mono ?_;rintro e w2 ⟨rfl,rfl⟩;rw [show ((b:Int)).toNat=b by omega,<- HX.out])
     exact ⟨⟨k+1,b,v+x,by omega,by go_num,by go_num,by go_num,HN⟩,by simp [intOf];omega⟩
   ·have b1:decide (2*(g:Int)<=(k:Int)+1)=false:=by simp;omega
    have HN:Hid (spr g f (k+1)=(v+x,b)):=by show _=_;rw [spr,hS.out,if_neg (fun h => h1 h.1),HX.out]
    go_wp2_with (go_at_call 96;refine (power_any _ _ (by omega) (by omega)).mono ?_;rintro e w2 ⟨rfl,rfl⟩;rw [show ((b:Int)).toNat=b by omega,<- HX.out])
    exact ⟨⟨k+1,b,v+x,by omega,by go_num,by go_num,by go_num,HN⟩,by simp [intOf];omega⟩
  ·obtain rfl:k=i:=by omega
   go_wp2
   go_ret2
   rw [hS.out]
   exact ⟨rfl,rfl⟩
end Go.Proofs.YthdmjmnkhlpnnabGreatDoor
