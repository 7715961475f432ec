import Derived.Test.YthdmjmnkhlpnnabGreatDoorZ26
import Derived.Test.YthdmjmnkhlpnnabGreatDoorZ15
namespace Go.Proofs.YthdmjmnkhlpnnabGreatDoor
open Go.RowKit
def Box (w:World) (q T:Nat) (v:Value):Prop:=w.heap[q]? = some (.cells #[v] T (0,0))
theorem Box.cell {w:World} {q T:Nat} {v:Value} (h:Box w q T v):w.cell? ⟨q,0,none⟩=some v:=by rw [cell_of_row _ _ 0 _ _ _ h];rfl
theorem Box.ty {w w':World} {q T:Nat} {v:Value} (h:Box w q T v) (t:Ty w w') (h1:T ≠ 78) (h2:T ≠ 5):Box w' q T v:=t _ _ _ _ h h1 h2
theorem newCode_st (ao:Option Addr) (c:Nat) (zs:List Int) (w:World) (hs:ISeg w ao zs) (hm:zs.length<=320) (g:Good zs) :
  Calls Tryz.prog 117 #[.slice ao zs.length c] w fun e w' => ∃ cv,e = .returned cv /\ Cdi w' cv zs /\ Below w.heap.size w w':=by
 refine (newCode_any ao c zs w hs.seg hm g.ok g.wt).mono ?_
 rintro e w' ⟨n,rfl,hn,hr,hb⟩
 refine ⟨_,rfl,⟨ao,c,some ⟨n,0,none⟩,zs.length,rfl,hs.ty (Ty.below hb),?_⟩,hb⟩
 have:=hr.iseg (rvs zs).length
 rwa [List.take_length] at this
structure Caught (w:World) (qw qa qb:Nat) (ws:List Wd) (za zb:List Int):Prop where
 st:∃ (ao a1 a2:Option Addr) (c c1 c2:Nat),Box w qw 127 (.slice ao ws.length c) /\ WSeg w ao ws /\ Box w qa 23 (.slice a1 za.length c1) /\ ISeg w a1 za /\ Box w qb 23 (.slice a2 zb.length c2) /\ ISeg w a2 zb
theorem Caught.ty {w w':World} {qw qa qb:Nat} {ws:List Wd} {za zb:List Int} (h:Caught w qw qa qb ws za zb) (t:Ty w w'):Caught w' qw qa qb ws za zb:=by
 obtain ⟨ao,a1,a2,c,c1,c2,h1,h2,h3,h4,h5,h6⟩:=h.st
 exact ⟨ao,a1,a2,c,c1,c2,h1.ty t (by decide) (by decide),h2.ty t,h3.ty t (by decide) (by decide),h4.ty t,h5.ty t (by decide) (by decide),h6.ty t⟩
theorem wwords_st {w0 w:World} {B:Nat} {ov:Value} {V L:Nat} {pv sv:Value} (h:Wst w0 B ov w V L pv sv) (ao:Option Addr) (c:Nat) (ws:List Wd) (va vb:Value) (za zb:List Int) (n:Nat)
  (hs:WSeg w ao ws) (ha:Cdi w va za) (hb:Cdi w vb zb) (hk:okw za zb ws n) (oka:za.any nl=false) (okb:zb.any nl=false) (la:za.length<=320) (lb:zb.length<=320) (hw:ws.length<=65535) (hL:L<=17179869184) :
  Calls Tryz.prog 116 #[.pointer (some ⟨B,0,none⟩),.slice ao ws.length c,va,vb] w fun e w' => e = .returned (.tuple #[]) /\ Wst w0 B ov w' (pw V L (wps za zb ws)) (L+pl (wps za zb ws)) pv sv /\ Ty w w':=by
 obtain ⟨ov1,a1,a2,a3⟩:=h.st
 refine (wwords_any w B ov1 V L pv sv ao c ws va vb za zb n a1 hs ha hb hk oka okb la lb hw hL).mono ?_
 rintro e w' ⟨rfl,hw'⟩
 obtain ⟨ov',b1,b2,b3⟩:=hw'.st
 exact ⟨rfl,Wst.then a1 a2 a3 h.ty ⟨ov',b1,b2,b3⟩,hw'.ty⟩
set_option maxRecDepth 20000 in
set_option maxHeartbeats 1600000 in
theorem fixed1_any (w:World) (B qw qa qb:Nat) (V L:Nat) (pv sv:Value) (ov:Value) (ws:List Wd) (za zb:List Int) (n:Nat) (h:Wb w B ov V L pv sv) (hc:Caught w qw qa qb ws za zb) (hk:okw za zb ws n) (ga:Good za) (gb:Good zb) (la:za.length<=320) (lb:zb.length<=320) (hw:ws.length<=65535) (hL:L<=17179860000) :
  Calls Tryz.prog 115 #[.pointer (some ⟨B,0,none⟩),.pointer (some ⟨qw,0,none⟩),.pointer (some ⟨qa,0,none⟩),.pointer (some ⟨qb,0,none⟩)] w fun e w' => e = .returned (.tuple #[]) /\ Wst w B ov w' (pw V L ((1,2) :: wps za zb ws)) (L+pl ((1,2) :: wps za zb ws)) pv sv:=by
 obtain ⟨ao,a1,a2,c,c1,c2,h1,h2,h3,h4,h5,h6⟩:=hc.st
 have HS0:=hid (Wst.start h)
 have HX1:=hid h1
 have HX2:=hid h2
 have HX3:=hid h3
 have HX4:=hid h4
 have HX5:=hid h5
 have HX6:=hid h6
 have HK:=hid hk
 have HGA:=hid ga
 have HGB:=hid gb
 clear h hc h1 h2 h3 h4 h5 h6 hk ga gb
 go_enter Tryz.func115,Tryz.ntmps115
 go_upto_region 1 with (go_at_call 73;refine (wnum_st HS0.out 1 2 (by decide) (by omega) (by omega)).mono ?_;rintro e w1 ⟨rfl,hw1,ht1⟩;have HS1:=hid (hw1.below (below_drewN' (Below.refl _ _) 1));have HT1:=hid (ht1.trans (Ty.below (below_drewN' (Below.refl _ _) 1)));have p1:=(HX1.out.ty ht1 (by decide) (by decide)).cell;have p3:=(HX3.out.ty ht1 (by decide) (by decide)).cell;have p5:=(HX5.out.ty ht1 (by decide) (by decide)).cell;clear hw1 ht1)
 go_region_with (first
   | (go_at_call 116;refine (wwords_st HS3.out ao c ws _ _ za zb n (HX2.out.ty HT3.out) HC3a.out HC3.out HK.out HGA.out.ok HGB.out.ok la lb hw (by omega)).mono ?_;rintro e w4 ⟨rfl,hw4,ht4⟩)
   | (go_at_call 117;have hfl:=HC2.out;refine (newCode_st a2 c2 zb _ (HX6.out.ty HT2.out) lb HGB.out).mono ?_;rintro e w3 ⟨cv3,rfl,hc3,hb3⟩;have HC3:=hid hc3;have HC3a:=hid (HC2.out.ty (Ty.below hb3));have HT3:=hid (HT2.out.trans (Ty.below hb3));have HS3:=hid (HS2.out.below hb3);have r1:=(HX1.out.ty HT3.out (by decide) (by decide)).cell;clear hc3 hb3)
   | (go_at_call 117;refine (newCode_st a1 c1 za _ (HX4.out.ty HT1.out) la HGA.out).mono ?_;rintro e w2 ⟨cv2,rfl,hc2,hb2⟩;have HC2:=hid hc2;have HT2:=hid (HT1.out.trans (Ty.below hb2));have HS2:=hid (HS1.out.below hb2);have q1:=(HX1.out.ty HT2.out (by decide) (by decide)).cell;have q5:=(HX5.out.ty HT2.out (by decide) (by decide)).cell;clear hc2 hb2))
 all_goals
  go_end0
  refine ⟨rfl,?_⟩
  rw [pw_cons,pl,<- Nat.add_assoc]
  exact hw4
end Go.Proofs.YthdmjmnkhlpnnabGreatDoor
