import Derived.Test.YthdmjmnkhlpnnabGreatDoorZ28
import Derived.Test.YthdmjmnkhlpnnabGreatDoorZ29
import Derived.Laws.EntriesVeiled
namespace Go.Proofs.YthdmjmnkhlpnnabGreatDoor
open Go.RowKit
theorem Tb.set {w w1:World} (h:Tb w w1) {g:Nat} {cs:Array Value} (hg:w.heap[g]? = some (.cells cs 83 (0,0))) (a:Addr) (ha:a.block=g) (v:Value):Tb w (w1.setCell a v):=fun j T cs' fr hj hne => by
 have hjg:j ≠ a.block:=fun e => by
  rw [e,ha,hg] at hj
  injection hj with hj
  injection hj with _ hj _
  exact hne hj.symm
 rw [Below.heap_setCell _ _ _ _ hjg]
 exact h j T cs' fr hj hne
theorem Tb.below {w w':World} (h:Below w.heap.size w w'):Tb w w':=fun q _ _ _ x _ => (h.block q (Array.getElem?_eq_some_iff.1 x).1).trans x
theorem Hed.tb {w w':World} {hb na nb:Nat} {zc:List Int} {k:Nat} {q:List (Nat × Nat)} (h:Hed w hb na nb zc k q) (t:Tb w w'):Hed w' hb na nb zc k q:=by
 obtain ⟨og,lg,ng,ra,rc,h1,h2,h3,h4,h5⟩:=h.st
 refine ⟨og,lg,ng,ra,rc,t _ _ _ _ h1 (by decide),t _ _ _ _ h2 (by decide),t _ _ _ _ h3 (by decide),t _ _ _ _ h4 (by decide),fun h0 => ?_⟩
 obtain ⟨b,cs,e,hc,hj⟩:=h5 h0
 exact ⟨b,cs,e,t b _ cs _ hc (by decide),hj⟩
set_option maxRecDepth 20000 in
set_option maxHeartbeats 12000000 in
theorem powner_any (w:World) (ao:Option Addr) (c q:Nat) (ws:List Wd) (n:Nat) (hs:WSeg w ao ws) (hk:okm ws n) (hw:ws.length<=65535) (hc:Cnt w q ⟨inc (cnw ws).a 256,(cnw ws).b,(cnw ws).n⟩) (hg:Glo w) :
  Calls Tryz.prog 72 #[.slice ao ws.length c,.pointer (some ⟨q,0,none⟩)] w fun e w' => ∃ qh qw qa qb hb za zb zc k rs,e = .returned (.agg #[.int .i64 ((2+pl (hps za zb zc k rs)+pl (wps za zb ws):Nat):Int),.func (.func 121) #[] #[.pointer (some ⟨qh,0,none⟩),.pointer (some ⟨qw,0,none⟩),.pointer (some ⟨qa,0,none⟩),.pointer (some ⟨qb,0,none⟩)]]) /\ Caught w' qw qa qb ws za zb /\ Box w' qh 175 (.pointer (some ⟨hb,0,none⟩)) /\ Hed w' hb za.length zb.length zc k rs /\ Head za zb zc k rs /\ Good za /\ Good zb /\ rs.length<=320 /\ (∀ m,n<=m->okw za zb ws m) /\ Below w.heap.size w w':=by
 have hmf:∀ (fn:Fn) (first cap:Array Value) (w:World),(Instr.makeFunc fn first cap).run Tryz.prog w = .ok (.func fn first cap) w:=fun _ _ _ _ => rfl
 have hce:=cnw_end ws n hk
 have hla:=hce.la
 have hlb:=hce.lb
 have hend:0 < (inc (cnw ws).a 256).getD 256 0:=by
  have hc0:=cnw_ok ws n hk
  exact inc_pos _ _ (by have:=hc0.la;omega) fun j => (hc0.ba j).1
 simp only at hla hlb
 have HC:=hid hc
 have HCE:=hid hce
 have HS:=hid hs
 have HK:=hid hk
 have HG:=hid hg
 have HEN:=hid (And.intro hend (And.intro hla hlb))
 have hgl:1 < w.heap.size:=cell_in (hg 0 (by omega))
 clear hc hce hs hk hg hend hla hlb
 have HB0:=hid (((Below.refl w.heap.size w).alloc (Nat.le_refl _) (.cells #[.slice ao ws.length c] 127)).alloc (by simp) (.cells #[.int .i64 0,.nilFunc] 83))
 have HX0:Hid (Box ((w.alloc (.cells #[.slice ao ws.length c] 127)).alloc (.cells #[.int .i64 0,.nilFunc] 83)) w.heap.size 127 (.slice ao ws.length c)):=(Below.heap_alloc _ _ _ (by simp)).trans (heap_alloc_new w _)
 have HX1:Hid (((w.alloc (.cells #[.slice ao ws.length c] 127)).alloc (.cells #[.int .i64 0,.nilFunc] 83)).heap[w.heap.size+1]? = some (.cells #[.int .i64 0,.nilFunc] 83 (0,0))):=by
  have:=heap_alloc_new (w.alloc (.cells #[.slice ao ws.length c] 127)) (.cells #[.int .i64 0,.nilFunc] 83)
  rw [World.size_alloc] at this
  exact this
 go_enter Tryz.func72,Tryz.ntmps72
 go_upto_region 2 with (go_at_call 118;refine (clengths_any _ q _ (ws.length+1) (by omega) (HC.out.below HB0.out) HCE.out).mono ?_;rintro e w1 ⟨g1,g2,la,lb,ka,kb,rfl,hg1,hg2,r1,r2,be1,be2,k1,k2,k3,k4,k5,k6,hb1⟩;have HR1:=hid r1;have HR2:=hid r2;have HE1:=hid be1;have HE2:=hid be2;have HKK:=hid (And.intro k3 k6);have HB1:=hid hb1;clear r1 r2 be1 be2 k3 k6 hb1 hg1 hg2)
 have HBa:=hid (HB0.out.trans (HB1.out.mono HB0.out.size))
 have HA1:=hid ((Below.refl w1.heap.size w1).alloc (Nat.le_refl _) (.cells #[.slice (some ⟨g1,0,none⟩) ka 286] 23))
 have HA2:=hid (HA1.out.alloc HA1.out.size (.cells #[.slice (some ⟨g2,0,none⟩) kb 30] 23))
 have HBb:=hid (HBa.out.trans (HA2.out.mono HBa.out.size))
 have HX2:=hid ((Ty.below HB1.out) _ _ _ _ HX1.out (by decide) (by decide))
 have HY2:=hid (HX0.out.ty (Ty.below HB1.out) (by decide) (by decide))
 have HP5:Hid (Box ((w1.alloc (.cells #[.slice (some ⟨g1,0,none⟩) ka 286] 23)).alloc (.cells #[.slice (some ⟨g2,0,none⟩) kb 30] 23)) w1.heap.size 23 (.slice (some ⟨g1,0,none⟩) ka 286)):=(Below.heap_alloc _ _ _ (by simp)).trans (heap_alloc_new w1 _)
 have HP6:Hid (Box ((w1.alloc (.cells #[.slice (some ⟨g1,0,none⟩) ka 286] 23)).alloc (.cells #[.slice (some ⟨g2,0,none⟩) kb 30] 23)) (w1.heap.size+1) 23 (.slice (some ⟨g2,0,none⟩) kb 30)):=by
  have:=heap_alloc_new (w1.alloc (.cells #[.slice (some ⟨g1,0,none⟩) ka 286] 23)) (.cells #[.slice (some ⟨g2,0,none⟩) kb 30] 23)
  rw [World.size_alloc] at this
  exact this
 have HTA:=hid (Ty.below HA2.out)
 have HR1b:=hid (HR1.out.ty HTA.out)
 have HR2b:=hid (HR2.out.ty HTA.out)
 have HX3:=hid (HTA.out _ _ _ _ HX2.out (by decide) (by decide))
 have HY3:=hid (HY2.out.ty HTA.out (by decide) (by decide))
 obtain ⟨q5,hq5⟩:∃ x,x=w1.heap.size:=⟨_,rfl⟩
 rw [<- hq5] at HP5 HP6 ⊢
 clear hq5
 have p5:=HP5.out.cell
 have p6:=HP6.out.cell
 generalize (w1.alloc (.cells #[.slice (some ⟨g1,0,none⟩) ka 286] 23)).alloc (.cells #[.slice (some ⟨g2,0,none⟩) kb 30] 23)=W2 at HBb HP5 HP6 HTA HR1b HR2b HX3 HY3 p5 p6 HA2 ⊢
 clear HB0 HX0 HX1 HB1 HBa HA1 HA2 HX2 HY2 HTA HR1 HR2
 have HHO:=hid (headOf_any W2 g1 g2 la lb ka kb HR1b.out HR2b.out (HE1.out.len.trans HEN.out.2.1) (HE2.out.len.trans HEN.out.2.2) k1 k2 k4 k5 (HG.out.below HBb.out hgl) HE1.out.bd HE2.out.bd ((HE1.out.pos 256).2 HEN.out.1))
 go_upto_region 3 with (go_at_call 119;refine HHO.out.mono ?_;rintro e w3 ⟨hb,zc,kk,rfl,hhb,hed,hbe,kk1,kk2,kk3,hb3⟩;have HED:=hid hed;have HBE:=hid hbe;have HB3:=hid hb3;have HK3:=hid kk3;clear hed hbe hb3 kk3 hhb)
 obtain ⟨HH,GA,GB⟩:=own_head HE1.out HE2.out HEN.out.2.1 HEN.out.2.2 HEN.out.1 k1 k2 HKK.out.1 k4 k5 HKK.out.2 HBE.out kk1 kk2 HK3.out
 have hlta:(la.take ka).length=ka:=by have h1:=HE1.out.len;have h2:=HEN.out.2.1;rw [List.length_take];omega
 have hltb:(lb.take kb).length=kb:=by have h1:=HE2.out.len;have h2:=HEN.out.2.2;rw [List.length_take];omega
 have hokw:∀ m,n<=m->okw (la.take ka) (lb.take kb) ws m:=fun m hm => cnw_okw ws n m HK.out hm _ _ (fun i hi hp => by rw [cut_getD HKK.out.1];exact (HE1.out.pos i).2 hp) (fun i hi hp => by rw [cut_getD HKK.out.2];exact (HE2.out.pos i).2 hp)
 have hza:∀ i,0<=(la.take ka).getD i 0 /\ (la.take ka).getD i 0<=15:=fun i => ok_getD GA.ok i
 have hzb:∀ i,0<=(lb.take kb).getD i 0 /\ (lb.take kb).getD i 0<=15:=fun i => ok_getD GB.ok i
 have hbits:=cnw_bits ws (la.take ka) (lb.take kb) n HK.out (fun i => (hza i).1) (fun i => (hzb i).1)
 have b1:=dot_bound (inc (cnw ws).a 256) (la.take ka) 65536 (by omega) (fun i => by have:=HCE.out.ba i;simp only at this;omega) hza
 have b2:=dot_bound (cnw ws).b (lb.take kb) 65536 (by omega) (fun i => by have:=HCE.out.bb i;simp only at this;omega) hzb
 have hbn:=HCE.out.bn
 simp only at hbn
 rw [HEN.out.2.1] at b1
 rw [HEN.out.2.2] at b2
 obtain ⟨za,hzae⟩:∃ z,z=la.take ka:=⟨_,rfl⟩
 obtain ⟨zb,hzbe⟩:∃ z,z=lb.take kb:=⟨_,rfl⟩
 have HI1:Hid (ISeg W2 (some ⟨g1,0,none⟩) za):=by rw [hzae];exact HR1b.out.iseg ka
 have HI2:Hid (ISeg W2 (some ⟨g2,0,none⟩) zb):=by rw [hzbe];exact HR2b.out.iseg kb
 rw [<- hzae,<- hzbe] at HH HED HBE hokw hbits
 rw [<- hzae] at GA hlta hza b1
 rw [<- hzbe] at GB hltb hzb b2
 obtain ⟨rs,hrs⟩:∃ r,r=runs (za ++ zb):=⟨_,rfl⟩
 rw [<- hrs] at HH HED HBE
 have hrl:rs.length<=320:=by
  have h1:=exr_many rs [] HH.runs
  rw [HH.says,List.length_append] at h1
  simp only [List.length_nil] at h1
  omega
 have hr18:∀ r,r ∈ rs->r.1<=18:=by
  rw [hrs]
  refine rnF_le (za ++ zb) (fun i => ?_) _ _
  rw [app_getD]
  split
  ·exact hza _
  ·exact hzb _
 obtain ⟨N,hN⟩:∃ N:Nat,N=pl (wps za zb ws):=⟨_,rfl⟩
 obtain ⟨M,hM⟩:∃ M:Nat,M=pl (hps za zb zc kk rs):=⟨_,rfl⟩
 have hMM:14+3*kk+rbits zc rs=M:=by rw [hM,hps_pl]
 have hMb:M<=10000:=by have:=rbits_le zc HH.c7 rs;omega
 rw [<- hN] at hbits
 unfold bitsC at hbits
 have hNb:(N:Int)<=1000000000:=by omega
 have HB4:=hid ((Below.refl w3.heap.size w3).alloc (Nat.le_refl _) (.cells #[.pointer (some ⟨hb,0,none⟩)] 175))
 have HQ4:Hid (Box (w3.alloc (.cells #[.pointer (some ⟨hb,0,none⟩)] 175)) w3.heap.size 175 (.pointer (some ⟨hb,0,none⟩))):=heap_alloc_new w3 _
 have HT4:=hid ((Ty.below HB3.out).trans (Ty.below HB4.out))
 have HBd:=hid (HBb.out.trans (HB3.out.mono HBb.out.size))
 have HBe:=hid (HBd.out.trans (HB4.out.mono HBd.out.size))
 have HX4:=hid (HT4.out _ _ _ _ HX3.out (by decide) (by decide))
 have HY4:=hid (HY3.out.ty HT4.out (by decide) (by decide))
 have HP5b:=hid (HP5.out.ty HT4.out (by decide) (by decide))
 have HP6b:=hid (HP6.out.ty HT4.out (by decide) (by decide))
 have HI1b:=hid (HI1.out.ty HT4.out)
 have HI2b:=hid (HI2.out.ty HT4.out)
 have HED4:=hid (HED.out.ty (Ty.below HB4.out))
 obtain ⟨q7,hq7⟩:∃ x,x=w3.heap.size:=⟨_,rfl⟩
 rw [<- hq7] at HQ4 ⊢
 have HALL:=hid (And.intro HH (And.intro GA (And.intro GB (And.intro hokw (And.intro hN (And.intro hM (And.intro hlta hltb)))))))
 have HHB:Hid (∀ u:World,Below (w3.alloc (.cells #[.pointer (some ⟨hb,0,none⟩)] 175)).heap.size (w3.alloc (.cells #[.pointer (some ⟨hb,0,none⟩)] 175)) u->Calls Tryz.prog 120 #[.pointer (some ⟨hb,0,none⟩)] u fun e w' => e = .returned (.int .i64 M) /\ Below u.heap.size u w'):=fun u hu => by
  have:=hbits_any u hb ka kb zc kk rs (HED4.out.ty (Ty.below hu)) kk2 hr18 hrl HH.c7 HH.lc
  rw [hMM] at this
  exact this
 have HCB:Hid (∀ u:World,Below (w3.alloc (.cells #[.pointer (some ⟨hb,0,none⟩)] 175)).heap.size (w3.alloc (.cells #[.pointer (some ⟨hb,0,none⟩)] 175)) u->Calls Tryz.prog 114 #[.pointer (some ⟨q,0,none⟩),.slice (some ⟨g1,0,none⟩) ka 286,.slice (some ⟨g2,0,none⟩) kb 30] u fun e w' => e = .returned (.int .i64 N) /\ Below u.heap.size u w'):=fun u hu => by
  have:=cbits_any u q ⟨inc (cnw ws).a 256,(cnw ws).b,(cnw ws).n⟩ (some ⟨g1,0,none⟩) (some ⟨g2,0,none⟩) 286 30 za zb (ws.length+1) (by omega) (HC.out.below (HBe.out.trans (hu.mono HBe.out.size))) HCE.out (HI1b.out.ty (Ty.below hu)).seg (HI2b.out.ty (Ty.below hu)).seg (by omega) (by omega) hza hzb
  rw [hlta,hltb,hbits] at this
  exact this
 clear hzae hzbe hrs hN hM hMM HH GA GB hokw hbits b1 b2 hza hzb hlta hltb hbn hr18 hq7 HX3 HY3 HP5 HP6 p5 p6 HI1 HI2 HED HB3 HB4 HT4 HHO HR1b HR2b HBd
 generalize w3.alloc (.cells #[.pointer (some ⟨hb,0,none⟩)] 175)=W4 at HBe HX4 HY4 HP5b HP6b HI1b HI2b HED4 HQ4 HHB HCB ⊢
 have p7:=HQ4.out.cell
 have p5:=HP5b.out.cell
 have p6:=HP6b.out.cell
 have l5:=cell_in p5
 have l6:=cell_in p6
 have w1:IntKind.i64.wrap (2+(M:Int))=2+(M:Int):=by rw [IntKind.wrap_i64];omega
 have w2:IntKind.i64.wrap (2+(M:Int)+(N:Int))=2+(M:Int)+(N:Int):=by rw [IntKind.wrap_i64];omega
 go_region_with (first
   | (go_at_call 114;refine (HCB.out _ HB5.out).mono ?_;rintro e w6 ⟨rfl,hb6⟩;have HB6:=hid (HB5.out.trans (hb6.mono HB5.out.size));have HX6:=hid ((Ty.below HB6.out) _ _ _ _ HX4.out (by decide) (by decide));have x0:w6.cell? ⟨w.heap.size+1,0,none⟩=some (.int .i64 0):=(by rw [cell_of_row _ _ 0 _ _ _ HX6.out];rfl);have x1:w6.cell? ⟨w.heap.size+1,1,none⟩=some .nilFunc:=(by rw [cell_of_row _ _ 1 _ _ _ HX6.out];rfl);have f0:w6.frozen? ⟨w.heap.size+1,0,none⟩=false:=(by simp [World.frozen?,HX6.out]);have f1:w6.frozen? ⟨w.heap.size+1,1,none⟩=false:=(by simp [World.frozen?,HX6.out]))
   | (go_at_call 120;refine (HHB.out _ (below_drewN' (Below.refl _ _) 1)).mono ?_;rintro e w5 ⟨rfl,hb5⟩;have HB5:Hid (Below W4.heap.size W4 w5):=((below_drewN' (Below.refl _ _) 1).trans hb5);have r5:=(HB5.out.cell (p:=⟨q5,0,none⟩) l5).trans p5;have r6:=(HB5.out.cell (p:=⟨q5+1,0,none⟩) l6).trans p6))
 all_goals
  go_wp2
  obtain ⟨HH,GA,GB,hokw,hN,hM,hlta,hltb⟩:=HALL.out
  refine bodyPost_ret (v:=.agg #[.int .i64 (2+(M:Int)+(N:Int)),.func (.func 121) #[] #[.pointer (some ⟨q7,0,none⟩),.pointer (some ⟨w.heap.size,0,none⟩),.pointer (some ⟨q5,0,none⟩),.pointer (some ⟨q5+1,0,none⟩)]]) (by simp [results,Tryz.results72,go_sem,x0,x1]) rfl ?_
  have ht:=((Tb.below HB6.out).set HX4.out ⟨w.heap.size+1,0,none⟩ rfl (.int .i64 (2+(M:Int)+(N:Int)))).set HX4.out ⟨w.heap.size+1,1,none⟩ rfl (.func (.func 121) #[] #[.pointer (some ⟨q7,0,none⟩),.pointer (some ⟨w.heap.size,0,none⟩),.pointer (some ⟨q5,0,none⟩),.pointer (some ⟨q5+1,0,none⟩)])
  refine ⟨q7,w.heap.size,q5,q5+1,hb,za,zb,zc,kk,rs,?_,⟨ao,some ⟨g1,0,none⟩,some ⟨g2,0,none⟩,c,286,30,ht _ _ _ _ HY4.out (by decide),(HS.out.ty (Ty.below HBe.out)).tb ht,?_,HI1b.out.tb ht,?_,HI2b.out.tb ht⟩,ht _ _ _ _ HQ4.out (by decide),?_,HH,GA,GB,hrl,hokw,?_⟩
  ·rw [<- hN,<- hM]
   push_cast
   rfl
  ·rw [hlta]
   exact ht _ _ _ _ HP5b.out (by decide)
  ·rw [hltb]
   exact ht _ _ _ _ HP6b.out (by decide)
  ·rw [hlta,hltb]
   exact HED4.out.tb ht
  ·have h6:=HBe.out.trans (HB6.out.mono HBe.out.size)
   exact (h6.setCell (p:=⟨w.heap.size+1,0,none⟩) (by show w.heap.size<=w.heap.size+1;omega) _).setCell (p:=⟨w.heap.size+1,1,none⟩) (by show w.heap.size<=w.heap.size+1;omega) _
end Go.Proofs.YthdmjmnkhlpnnabGreatDoor
