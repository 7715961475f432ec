import Derived.Test.YthdmjmnkhlpnnabGreatDoorY02
import Derived.Test.YthdmjmnkhlpnnabGreatDoorY10
import Derived.Deep.DeepCutAuto
namespace Go.Proofs.YthdmjmnkhlpnnabGreatDoor
open Go.RowKit
set_option maxRecDepth 20000 in
set_option maxHeartbeats 1600000 in
theorem runframe_any (w:World) (s:ByteArray) (m:Int) (hs:s.size<=16777216) :
  Calls Tryz.prog 49 #[.string s,.int .i64 m] w fun e w' => e = .returned (.tuple #[.string (ufF s (max m 0)).1,.int .i64 (ufF s (max m 0)).2]) /\ Below w.heap.size w w':=by
 obtain ⟨X,hX⟩:∃ X,X=ufF s (max m 0):=⟨_,rfl⟩
 rw [<- hX]
 by_cases h2:s.size < 2
 ·have HX:Hid (X=(⟨#[]⟩,1)):=by show X=_;rw [hX];unfold ufF bgF;rw [if_pos h2];rfl
  clear hX
  go_enter Tryz.func49,Tryz.ntmps49
  go_wp2
  go_ret2
  rw [HX.out]
  exact ⟨rfl,Below.refl _ _⟩
 ·have h0:0 < s.size:=by omega
  have h1:1 < s.size:=by omega
  have h1a:(1:Int) < (s.size:Int):=by omega
  have h1b:decide ((1:Int) < (s.size:Int))=true:=by simp;omega
  have h1c:¬ s.size<=1:=by omega
  have h1d:¬ (s.size:Int)<=1:=by omega
  obtain ⟨x,hx⟩:∃ x,x=s[0].toNat:=⟨_,rfl⟩
  obtain ⟨y,hy⟩:∃ y,y=s[1].toNat:=⟨_,rfl⟩
  have hx8:x < 256:=by rw [hx];exact s[0].toNat_lt
  have hy8:y < 256:=by rw [hy];exact s[1].toNat_lt
  have hbg:bgF s=if okH x y=true then 0 else 7:=by unfold bgF;rw [if_neg h2,byt_get s 0 h0,byt_get s 1 h1,<- hx,<- hy]
  have HBG:=hid hbg
  have HXX:=hid hX
  clear hbg hX
  go_enter Tryz.func49,Tryz.ntmps49
  go_upto_region 5 with fail
  rw [<- hx,<- hy]
  have HXY:=hid (And.intro hx hy)
  clear hx hy
  go_cut [44] (fun b wx => b = .bool (!okH x y) /\ wx=w)
  case first =>
   go_wp2
   all_goals
    go_meet
    refine ⟨congrArg Value.bool ?_,rfl⟩
    unfold okH
    rw [Bool.eq_iff_iff]
    simp
    omega
  case rest =>
  obtain ⟨rfl,rfl⟩:=hcut
  obtain ⟨ok,hok⟩:∃ b,b=okH x y:=⟨_,rfl⟩
  rw [<- hok] at HBG ⊢
  clear hok
  cases ok
  ·have HX:Hid (X=(⟨#[]⟩,7)):=by
    show X=_
    have:=HBG.out
    rw [if_neg (by simp)] at this
    rw [HXX.out]
    unfold ufF
    rw [this]
    rfl
   go_wp2
   go_ret2
   rw [HX.out]
   exact ⟨rfl,Below.refl _ _⟩
  ·have hb0:bgF s=0:=by have:=HBG.out;rw [if_pos rfl] at this;exact this
   obtain ⟨D,hD⟩:∃ D,D=s.extract 2 s.size:=⟨_,rfl⟩
   have hDz:D.size=s.size - 2:=by rw [hD,ByteArray.size_extract];omega
   have hDs:D.size<=16777216:=by omega
   have HI:Hid (∀ u:World,Calls Tryz.prog 47 #[.string D,.int .i64 m] u fun e w' => e = .returned (.tuple #[.string (ou D (max m 0)).1,.int .i64 (ou D (max m 0)).2.1,.int .i64 (ou D (max m 0)).2.2]) /\ Below u.heap.size u w'):=fun u => rinflate_any u D m hDs
   obtain ⟨A,hA⟩:∃ A,A=(ou D (max m 0)).1:=⟨_,rfl⟩
   obtain ⟨N,hN⟩:∃ N,N=(ou D (max m 0)).2.1:=⟨_,rfl⟩
   obtain ⟨E,hE⟩:∃ E,E=(ou D (max m 0)).2.2:=⟨_,rfl⟩
   rw [<- hA,<- hN,<- hE] at HI
   have HD:=hid hD
   have h2a:(2:Int)<=(s.size:Int):=by omega
   by_cases hE0:E=0
   ·have hfit:=ou_fit D (max m 0) hDs (by rw [<- hE];exact hE0)
    rw [<- hA,<- hN] at hfit
    have hAs:=hfit.2
    have hNs:2+N<=s.size:=by omega
    have hNi:2+(N:Int)<=(s.size:Int):=by omega
    have hNt:(2+(N:Int)).toNat=2+N:=by omega
    obtain ⟨R,hRR⟩:∃ R,R=s.extract (2+N) s.size:=⟨_,rfl⟩
    have hRs:R.size<=16777216:=by rw [hRR,ByteArray.size_extract];omega
    obtain ⟨f,hf⟩:∃ f,f=enF R A:=⟨_,rfl⟩
    have HXV:Hid (X=if f ≠ 0 then (⟨#[]⟩,f) else (A,0)):=by
     show X=_
     rw [HXX.out]
     unfold ufF
     rw [hb0,if_neg (by omega),<- hD,<- hE,if_neg (by omega),<- hA,<- hN,<- hRR,<- hf]
    have HRX:=hid hRR
    have HF:=hid hf
    have HAS:=hid hAs
    subst hE0
    clear hA hN hE hD hRR hf hfit hAs hb0 HBG HXX
    go_upto_region 11 with (go_at_call 47;rw [<- HD.out];refine (HI.out _).mono ?_;rintro e w2 ⟨rfl,hb2⟩;have HB2:=hid hb2;clear hb2)
    rw [<- HRX.out]
    by_cases hR4:R.size < 4
    ·have HX:Hid (X=(⟨#[]⟩,1)):=by show X=_;rw [HXV.out,HF.out];unfold enF;rw [if_pos hR4];rfl
     go_wp2
     go_ret2
     rw [HX.out]
     exact ⟨rfl,HB2.out⟩
    ·have hR4a:4<=R.size:=by omega
     have HFV:Hid (f=if num4 R 4=adS A.data.toList then if 4 < R.size then 7 else 0 else 8):=by show f=_;rw [HF.out];unfold enF;rw [if_neg hR4]
     have HSU:Hid (∀ u:World,Calls Tryz.prog 92 #[.string A] u fun e w' => e = .returned (.int .i64 (adS A.data.toList:Nat)) /\ u=w'):=fun u => (refsum_any A u HAS.out).mono fun e w' ⟨h1,h2⟩ => ⟨by rw [h1,adS_int],h2⟩
     obtain ⟨Q,hQ⟩:∃ Q,Q=adS A.data.toList:=⟨_,rfl⟩
     rw [<- hQ] at HFV HSU
     clear hQ HF
     go_wp2
     go_loop [12,13] (fun t i => ∃ (k x:Nat),k<=4 /\ i = .int .i64 k /\ Hid (x=num4 R k) /\ t = .int .i64 x) (fun _ i => 4 - (intOf i).toNat)
     case atStart => exact ⟨0,0,by omega,rfl,rfl,rfl⟩
     case round =>
      obtain ⟨k,z,hk,rfl,HZ,rfl⟩:=hrel
      by_cases hlt:k < 4
      ·have hz:z < 16777216:=by rw [HZ.out];exact num4_bound R k (by omega)
       have hkR:k < R.size:=by omega
       have hb:R[k].toNat < 256:=R[k].toNat_lt
       have HN:Hid (256*z+R[k].toNat=num4 R (k+1)):=by show _=_;rw [num4,HZ.out,byt_get R k hkR]
       go_wp2
       go_round
       case rel => exact ⟨k+1,256*z+R[k].toNat,by omega,by go_num,HN,by go_num⟩
       case measure => simp [intOf];omega
      ·obtain rfl:k=4:=by omega
       by_cases hQz:z=Q
       ·subst hQz
        have b1:((z:Int) != (z:Int))=false:=by simp
        by_cases h5:4 < R.size
        ·have HX:Hid (X=(⟨#[]⟩,7)):=by show X=_;rw [HXV.out,HFV.out,if_pos HZ.out.symm,if_pos h5];rfl
         go_wp2_with (go_at_call 92;refine (HSU.out _).mono ?_;rintro e w3 ⟨rfl,rfl⟩)
         go_ret2
         rw [HX.out]
         exact ⟨rfl,HB2.out⟩
        ·have HX:Hid (X=(A,0)):=by show X=_;rw [HXV.out,HFV.out,if_pos HZ.out.symm,if_neg h5];rfl
         go_wp2_with (go_at_call 92;refine (HSU.out _).mono ?_;rintro e w3 ⟨rfl,rfl⟩)
         go_ret2
         rw [HX.out]
         exact ⟨rfl,HB2.out⟩
       ·have hf8:f=8:=by rw [HFV.out,<- HZ.out,if_neg hQz]
        have HX:Hid (X=(⟨#[]⟩,8)):=by show X=_;rw [HXV.out,hf8];rfl
        clear hf8
        have b1:((z:Int) != (Q:Int))=true:=by rw [bne_iff_ne];omega
        go_wp2_with (go_at_call 92;refine (HSU.out _).mono ?_;rintro e w3 ⟨rfl,rfl⟩)
        go_ret2
        rw [HX.out]
        exact ⟨rfl,HB2.out⟩
   ·have HX:Hid (X=(⟨#[]⟩,E)):=by
     show X=_
     rw [HXX.out]
     unfold ufF
     rw [hb0,if_neg (by omega),<- hD,<- hE,if_pos hE0]
    have b1:((E:Int) != 0)=true:=by rw [bne_iff_ne];omega
    clear hA hN hE hD hb0 HBG HXX
    go_wp2_with (go_at_call 47;rw [<- HD.out];refine (HI.out _).mono ?_;rintro e w2 ⟨rfl,hb2⟩;have HB2:=hid hb2;clear hb2)
    go_ret2
    rw [HX.out]
    exact ⟨rfl,HB2.out⟩
set_option maxHeartbeats 800000 in
theorem unframes_walk (s:ByteArray) (m:Int) (w:World) (hs:s.size<=16777216) (hg:Glo w) (hw:1 < w.heap.size) :
  Calls Tryz.prog 29 #[.string s,.int .i64 m] w fun e w' => e = .returned (.bool true) /\ Below w.heap.size w w':=by
 have HI:=hid (unframe_any w s m hs hg hw)
 obtain ⟨A,hA⟩:∃ A,A=(ufF s (max m 0)).1:=⟨_,rfl⟩
 obtain ⟨E,hE⟩:∃ E,E=(ufF s (max m 0)).2:=⟨_,rfl⟩
 have HR:Hid (∀ u:World,Calls Tryz.prog 49 #[.string s,.int .i64 m] u fun e w' => e = .returned (.tuple #[.string A,.int .i64 E]) /\ Below u.heap.size u w'):=fun u => by rw [hA,hE];exact runframe_any u s m hs
 rw [<- hA,<- hE] at HI
 clear hA hE hg
 go_enter Tryz.func29,Tryz.ntmps29
 go_wp2_with (first | (go_at_call 48;refine HI.out.mono ?_;rintro e w1 ⟨rfl,hb1⟩) | (go_at_call 49;refine (HR.out _).mono ?_;rintro e w2 ⟨rfl,hb2⟩) | (go_at_call 46;refine (num_any _ _).mono ?_;rintro e w3 ⟨rfl,rfl⟩))
 go_ret
 exact ⟨rfl,hb1.trans (hb2.mono hb1.size)⟩
end Go.Proofs.YthdmjmnkhlpnnabGreatDoor
namespace Go.Proofs.YthdmjmnkhlpnnabGreatDoor
open Go.RowKit
set_option maxHeartbeats 800000 in
theorem inflates_walk (s:ByteArray) (m:Int) (w:World) (hs:s.size<=16777216) (hg:Glo w) (hw:1 < w.heap.size) :
  Calls Tryz.prog 28 #[.string s,.int .i64 m] w fun e w' => e = .returned (.bool true) /\ Below w.heap.size w w':=by
 have HI:=hid (inflate_any w s m hs hg hw)
 obtain ⟨A,hA⟩:∃ A,A=(ou s (max m 0)).1:=⟨_,rfl⟩
 obtain ⟨N,hN⟩:∃ N,N=(ou s (max m 0)).2.1:=⟨_,rfl⟩
 obtain ⟨E,hE⟩:∃ E,E=(ou s (max m 0)).2.2:=⟨_,rfl⟩
 have HR:Hid (∀ u:World,Calls Tryz.prog 47 #[.string s,.int .i64 m] u fun e w' => e = .returned (.tuple #[.string A,.int .i64 N,.int .i64 E]) /\ Below u.heap.size u w'):=fun u => by rw [hA,hN,hE];exact rinflate_any u s m hs
 rw [<- hA,<- hN,<- hE] at HI
 clear hA hN hE hg
 go_enter Tryz.func28,Tryz.ntmps28
 go_wp2_with (first | (go_at_call 11;refine HI.out.mono ?_;rintro e w1 ⟨rfl,hb1⟩) | (go_at_call 47;refine (HR.out _).mono ?_;rintro e w2 ⟨rfl,hb2⟩) | (go_at_call 46;refine (num_any _ _).mono ?_;rintro e w3 ⟨rfl,rfl⟩))
 go_ret
 exact ⟨rfl,hb1.trans (hb2.mono hb1.size)⟩
end Go.Proofs.YthdmjmnkhlpnnabGreatDoor
