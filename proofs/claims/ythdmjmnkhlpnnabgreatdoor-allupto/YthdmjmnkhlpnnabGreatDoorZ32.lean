import Derived.Test.YthdmjmnkhlpnnabGreatDoorZ27
import Derived.Test.YthdmjmnkhlpnnabGreatDoorZ31
namespace Go.Proofs.YthdmjmnkhlpnnabGreatDoor
open Go.RowKit
theorem whead_st {w0 w:World} {B:Nat} {ov:Value} {V L:Nat} {pv sv:Value} (h0:Wst w0 B ov w V L pv sv) (hb:Nat) (za zb zc:List Int) (k:Nat) (q:List (Nat × Nat)) (h:Hed w hb za.length zb.length zc k q) (H:Head za zb zc k q) (hl:q.length<=320) (hL:L<=17179869184) :
  Calls Tryz.prog 122 #[.pointer (some ⟨B,0,none⟩),.pointer (some ⟨hb,0,none⟩)] w fun e w' => e = .returned (.tuple #[]) /\ Wst w0 B ov w' (pw V L (hps za zb zc k q)) (L+pl (hps za zb zc k q)) pv sv /\ Ty w w':=by
 obtain ⟨ov1,a1,a2,a3⟩:=h0.st
 have la:=H.la
 have lb:=H.lb
 have k4:=H.k4
 refine (whead_any w B ov1 V L pv sv hb za.length zb.length zc k q a1 h k4.1 k4.2 la.1 la.2 lb.1 lb.2 H.runs hl H.c7 H.lc hL).mono ?_
 rintro e w' ⟨rfl,hw'⟩
 obtain ⟨ov',b1,b2,b3⟩:=hw'.st
 exact ⟨rfl,Wst.then a1 a2 a3 h0.ty ⟨ov',b1,b2,b3⟩,hw'.ty⟩
set_option maxRecDepth 20000 in
set_option maxHeartbeats 1600000 in
theorem own1_any (w:World) (B qh qw qa qb hb:Nat) (V L:Nat) (pv sv:Value) (ov:Value) (ws:List Wd) (za zb zc:List Int) (k:Nat) (q:List (Nat × Nat)) (n:Nat) (h:Wb w B ov V L pv sv) (hc:Caught w qw qa qb ws za zb) (hx:Box w qh 175 (.pointer (some ⟨hb,0,none⟩))) (hh:Hed w hb za.length zb.length zc k q) (H:Head za zb zc k q) (hk:okw za zb ws n) (ga:Good za) (gb:Good zb) (hw:ws.length<=65535) (hl:q.length<=320) (hL:L<=17179000000) :
  Calls Tryz.prog 121 #[.pointer (some ⟨B,0,none⟩),.pointer (some ⟨qh,0,none⟩),.pointer (some ⟨qw,0,none⟩),.pointer (some ⟨qa,0,none⟩),.pointer (some ⟨qb,0,none⟩)] w fun e w' => e = .returned (.tuple #[]) /\ Wst w B ov w' (pw V L ((2,2) :: (hps za zb zc k q ++ wps za zb ws))) (L+pl ((2,2) :: (hps za zb zc k q ++ wps za zb ws))) pv sv:=by
 obtain ⟨ao,a1,a2,c,c1,c2,h1,h2,h3,h4,h5,h6⟩:=hc.st
 have hla:=H.la
 have hlb:=H.lb
 have hph:pl (hps za zb zc k q)<=100000:=by
  have hk4:=H.k4
  have:=rps_small zc H.c7 q
  unfold hps
  rw [pl_append,pl_append,ops_pl]
  simp only [pl]
  omega
 have HS0:=hid (Wst.start h)
 have HX0:=hid hx
 have HHD:=hid hh
 have HHH:=hid H
 have HX1:=hid h1
 have HX2:=hid h2
 have HX3:=hid h3
 have HX4:=hid h4
 have HX5:=hid h5
 have HX6:=hid h6
 have HK:=hid hk
 have HGA:=hid ga
 have HGB:=hid gb
 clear h hc hx hh H h1 h2 h3 h4 h5 h6 hk ga gb
 go_enter Tryz.func121,Tryz.ntmps121
 go_upto_region 2 with (first | (go_at_call 122;refine (whead_st HSa.out hb za zb zc k q (HHD.out.ty HTa.out) HHH.out hl (by omega)).mono ?_;rintro e w1 ⟨rfl,hw1,ht1⟩;have HS1:=hid (hw1.below (below_drewN' (Below.refl _ _) 1));have HT0:=hid (HTa.out.trans ht1);have HT1:=hid (HT0.out.trans (Ty.below (below_drewN' (Below.refl _ _) 1)));have p1:=(HX1.out.ty HT0.out (by decide) (by decide)).cell;have p3:=(HX3.out.ty HT0.out (by decide) (by decide)).cell;have p5:=(HX5.out.ty HT0.out (by decide) (by decide)).cell;clear hw1 ht1) | (go_at_call 73;refine (wnum_st HS0.out 2 2 (by decide) (by omega) (by omega)).mono ?_;rintro e wa ⟨rfl,hwa,hta⟩;have HSa:=hid hwa;have HTa:=hid hta;have p0:=(HX0.out.ty hta (by decide) (by decide)).cell;clear hwa hta))
 go_region_with (first
   | (go_at_call 116;refine (wwords_st HS3.out ao c ws _ _ za zb n (HX2.out.ty HT3.out) HC3a.out HC3.out HK.out HGA.out.ok HGB.out.ok (by omega) (by omega) hw (by omega)).mono ?_;rintro e w4 ⟨rfl,hw4,ht4⟩)
   | (go_at_call 117;have hfl:=HC2.out;refine (newCode_st a2 c2 zb _ (HX6.out.ty HT2.out) (by omega) HGB.out).mono ?_;rintro e w3 ⟨cv3,rfl,hc3,hb3⟩;have HC3:=hid hc3;have HC3a:=hid (HC2.out.ty (Ty.below hb3));have HT3:=hid (HT2.out.trans (Ty.below hb3));have HS3:=hid (HS2.out.below hb3);have r1:=(HX1.out.ty HT3.out (by decide) (by decide)).cell;clear hc3 hb3)
   | (go_at_call 117;refine (newCode_st a1 c1 za _ (HX4.out.ty HT1.out) (by omega) HGA.out).mono ?_;rintro e w2 ⟨cv2,rfl,hc2,hb2⟩;have HC2:=hid hc2;have HT2:=hid (HT1.out.trans (Ty.below hb2));have HS2:=hid (HS1.out.below hb2);have q1:=(HX1.out.ty HT2.out (by decide) (by decide)).cell;have q5:=(HX5.out.ty HT2.out (by decide) (by decide)).cell;clear hc2 hb2))
 all_goals
  go_end0
  refine ⟨rfl,?_⟩
  rw [pw_cons,pl,<- Nat.add_assoc,pw_append,pl_append,<- Nat.add_assoc]
  exact hw4
end Go.Proofs.YthdmjmnkhlpnnabGreatDoor
