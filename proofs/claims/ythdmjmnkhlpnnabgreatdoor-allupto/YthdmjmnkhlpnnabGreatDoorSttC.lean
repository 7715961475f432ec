import Derived.Test.YthdmjmnkhlpnnabGreatDoorY14
import Derived.Deep.DeepCutAuto
import Derived.Deep.RegionHeld3
namespace Go.Proofs.YthdmjmnkhlpnnabGreatDoor
open Go.RowKit Go.Maps
theorem Wps.cs {W o:List UInt8} {cl to' fu:Bool} {a b f:Nat} {la:Bool} {e V L:Nat} {t hs:List UInt8} (h:Wps W o cl to' fu a b f la e V L t hs):(cl=true /\ la=false /\ to'=true) ∨ (cl=false /\ la=true /\ to'=true) ∨ (cl=false /\ la=false /\ to'=true) ∨ (cl=false /\ la=false /\ to'=false):=by
 cases cl with
 | true => exact .inl ⟨rfl,(h.clo rfl).1,(h.clo rfl).2.1⟩
 | false =>
  obtain ⟨T,m,Vt,Lt,hg,h1,h2,h3,h4,h5⟩:=h.op rfl
  cases la with
  | true => exact .inr (.inl ⟨rfl,rfl,(h4 rfl).1⟩)
  | false => cases to' <;> simp
theorem ba_rest (D:ByteArray) (a:Nat):D.extract a D.size=⟨(D.data.toList.drop a).toArray⟩:=ba_ext (by rw [ba_ext_list,ba_of,List.take_of_length_le (by rw [szl];omega)])
theorem wall {Wr D:ByteArray} {cl to' fu:Bool} {a b f:Nat} {la:Bool} {e V L:Nat} {t hs:List UInt8} (h:Wps Wr.data.toList D.data.toList cl to' fu a b f la e V L t hs) (hL:L < 8) (hV:V < 2 ^ L) (hD:D.size<=16777216):∃ (T:ByteArray) (n e:Nat),(∀ u:World,Calls Tryz.prog 47 #[.string D,.int .i64 Wr.size] u fun r w' => r = .returned (.tuple #[.string T,.int .i64 n,.int .i64 e]) /\ Below u.heap.size u w') /\ (cl=true->T=Wr /\ n=D.size /\ e=0) /\ (cl=false->e=1 /\ T.data.toList <+: Wr.data.toList /\ (to'=true->T=Wr)):=by
 obtain ⟨t1,n1,e1,hou,hcT,hcF⟩:=h.all hL hV
 rw [szl,<- ba_self] at hou
 refine ⟨⟨t1.toArray⟩,n1,e1,fun u => (rinflate_any u D Wr.size hD).mono fun e w' ⟨h3,h4⟩ => ⟨by rw [h3,show max (Wr.size:Int) 0=Wr.size by omega,hou],h4⟩,fun q => ⟨ba_ext (by rw [ba_of];exact (hcT q).1),by rw [(hcT q).2.1,szl],(hcT q).2.2⟩,fun q => ⟨(hcF q).1,(hcF q).2.1,fun r => ba_ext (by rw [ba_of];exact (hcF q).2.2 r)⟩⟩
theorem wsome {Wr D:ByteArray} {cl to' fu:Bool} {a b f:Nat} {la:Bool} {e V L:Nat} {t hs:List UInt8} (h:Wps Wr.data.toList D.data.toList cl to' fu a b f la e V L t hs) (hL:L < 8) (hV:V < 2 ^ L) (hD:D.size<=16777216):∃ (T:ByteArray) (n e:Nat),(∀ u:World,Calls Tryz.prog 47 #[.string (D.extract a D.size),.int .i64 Wr.size] u fun r w' => r = .returned (.tuple #[.string T,.int .i64 n,.int .i64 e]) /\ Below u.heap.size u w') /\ (cl=true->T=Wr.extract b Wr.size /\ e=0) /\ (cl=false->e=1 /\ T.data.toList <+: (Wr.extract b Wr.size).data.toList /\ (to'=true->T=Wr.extract b Wr.size)):=by
 obtain ⟨t1,n1,e1,hou,hcT,hcF⟩:=h.some hL hV
 rw [szl,<- ba_rest] at hou
 refine ⟨⟨t1.toArray⟩,n1,e1,fun u => (rinflate_any u (D.extract a D.size) Wr.size (by rw [ByteArray.size_extract];omega)).mono fun e w' ⟨h3,h4⟩ => ⟨by rw [h3,show max (Wr.size:Int) 0=Wr.size by omega,hou],h4⟩,fun q => ⟨by rw [ba_rest,(hcT q).1],(hcT q).2⟩,fun q => ⟨(hcF q).1,by rw [ba_rest];exact (hcF q).2.1,fun r => by rw [ba_rest,(hcF q).2.2 r]⟩⟩
theorem wfour {Wr D:ByteArray} {to' fu:Bool} {a b f:Nat} {e V L:Nat} {t hs:List UInt8} (h:Wps Wr.data.toList D.data.toList false to' fu a b f true e V L t hs) (hL:L < 8) (hV:V < 2 ^ L):4<=D.size /\ D.extract (D.size - 4) D.size=⟨#[0,0,255,255]⟩:=by
 obtain ⟨h1,h2⟩:=h.four hL hV
 rw [szl] at h1 h2
 exact ⟨h1,by rw [ba_rest,h2]⟩
theorem region_class {P:Program} {id:Nat} {Q:Exit->Act->World->Prop} {a:Act} {w:World} {l:List Oper} {ι:Type} {F:ι->World} (hm:P.follows .mixedOrders=true) (hB:Region.lexB .any l.toArray=true) (hC:∃ i,w.drew=F i)
  (h:wpQuiet P l.toArray (fun w' => ∃ i,w'=F i) (fun a' => ∀ w',(∃ i,w'=F i)->Q .normal a' w') l a):(Code.region id l.toArray true).wp P Q a w :=
 wp_region_quiet (C:=fun w' => ∃ i,w'=F i) hm hB hC (by simpa using h)
set_option maxRecDepth 20000 in
set_option maxHeartbeats 6400000 in
theorem wtake_any (w:World) (O:Nat->Prop) (X n f:Nat) (h:Wmm w O X n f) (hn:n<=1048576) (hf:f<=300000) :
  Calls Tryz.prog 34 #[.pointer (some ⟨X,0,none⟩)] w fun e w' => e = .returned (.bool true) /\ ∃ O',Wmm w' O' X n f /\ To O O' w w':=by
 obtain ⟨Z,Wr,By,cl,to',fu,a,b,la,e,V,L,t,lv,hs,Op,rfl,hx,hsm,hps,hWn⟩:=h.st
 obtain ⟨x0,-,-,-,-,-,-,-,-,-,-,-⟩:=wblk_cells hx
 have HX:=hid hx
 have HT:=hid (smtake_any w Op Z V L t lv hs cl hsm)
 have HNX:=hid (wapart hsm hx)
 have HPS:=hid hps
 have hWb:Wr.size<=1048576:=by omega
 have HWN:=hid hWn
 clear h hx hsm hps hWn
 go_enter Tryz.func34,Tryz.ntmps34
 go_upto_region 2 with (go_at_call 10;refine HT.out.mono ?_;rintro e' w1 ⟨x,g,c,rfl,hc8,hg2,hV,hL,Op1,hsm1,hk1⟩;have HSM1:=hid hsm1;have HK1:=hid hk1;have HTK:=hid (HPS.out.taken hV hL hc8);have HX1:Hid (w1.heap[X]? = _):=((hk1.fr.blk X (Array.getElem?_eq_some_iff.1 HX.out).1 HNX.out).trans HX.out);have HVL:=hid (And.intro hc8 (And.intro hg2 hL));clear hsm1 hk1 hV hL hc8 hg2)
 clear x0
 obtain ⟨Y,hY⟩:∃ Y:ByteArray,Y=⟨x.toArray⟩:=⟨_,rfl⟩
 have hYs:Y.size=x.length:=by rw [hY,ba_size]
 rw [<- hY]
 obtain ⟨D,hD⟩:∃ D:ByteArray,D=By ++ Y:=⟨_,rfl⟩
 have hDl:D.data.toList=By.data.toList ++ x:=by rw [hD,ba_app,hY]
 have hPT:=HTK.out.2.2
 rw [<- hDl] at hPT
 have HPT:=hid hPT
 have hbn:D.size<=16777216 /\ e<=100000000 /\ a<=D.size /\ b<=Wr.size:=by
  have h1:=HPS.out.bnd
  have h2:=hPT.bnd
  have h3:=HTK.out.2.1
  rw [szl,szl] at h1 h2
  have:=HWN.out
  omega
 have h4e:4*e<=Y.size:=by rw [hYs];exact HTK.out.1
 obtain ⟨hD4,he9,haD,hbW⟩:=hbn
 obtain ⟨-,x1,x2,x3,x4,x5,x6,x7,x8,x9,x10,xf⟩:=wblk_cells HX1.out
 have xf2:=xf 2
 have xf10:=xf 10
 have i1:decide ((Y.size:Int) < 4*(e:Int))=false:=by simp;omega
 clear x1 x3 x4 x5 x6 x7 x8 x9 xf hPT hYs hDl hY
 have HDY:=hid hD
 have hBY:By.size+Y.size<=9223372036854775807:=by have:=congrArg ByteArray.size hD;rw [ByteArray.size_append] at this;omega
 clear hD
 go_upto_region 6 with fail
 rw [<- HDY.out]
 have HX2:Hid (((w1.setCell ⟨X,10,none⟩ (.int .i64 0)).setCell ⟨X,2,none⟩ (.string D)).heap[X]? = some (.cells (wcells Z Wr D cl to' fu a b f la 0) 97 (0,0))):=by
  rw [blk_set (blk_set HX1.out _ _)]
  rfl
 have HS2:Hid (Sm ((w1.setCell ⟨X,10,none⟩ (.int .i64 0)).setCell ⟨X,2,none⟩ (.string D)) Op1 Z g c t lv hs cl):=(HSM1.out.setx HX1.out 10 _).setx (blk_set HX1.out _ _) 2 _
 have HK2:Hid (To (SmO X Op) (SmO X Op1) w ((w1.setCell ⟨X,10,none⟩ (.int .i64 0)).setCell ⟨X,2,none⟩ (.string D))):=⟨((HK1.out.sm X).fr.set ⟨X,10,none⟩ (.inl rfl) _).set ⟨X,2,none⟩ (.inl rfl) _,(HK1.out.sm X).new⟩
 generalize (w1.setCell ⟨X,10,none⟩ (.int .i64 0)).setCell ⟨X,2,none⟩ (.string D)=W2 at HX2 HS2 HK2 ⊢
 obtain ⟨T1,n1,e1,hIN,hcT,hcF⟩:=wall HPT.out HVL.out.1 HVL.out.2.1 hD4
 have HIN:=hid hIN
 have HC1:=hid (And.intro hcT hcF)
 clear x2 x10 xf2 xf10 i1 h4e hBY hIN hcT hcF
 obtain ⟨-,x1,x2,-,-,-,-,-,-,-,-,-⟩:=wblk_cells HX2.out
 have hXl:X < W2.heap.size:=(Array.getElem?_eq_some_iff.1 HX2.out).1
 obtain ⟨ι,hι,F,hF0,hF1,hF2,hF3,hF4⟩:∃ (ι:Type) (_:Nonempty ι) (F:ι->World),(∃ i,W2.drew=F i) /\ (∀ i,(F i).cell? ⟨X,1,none⟩=some (.string Wr)) /\ (∀ i,(F i).cell? ⟨X,2,none⟩=some (.string D)) /\ Hid (∀ i,Calls Tryz.prog 47 #[.string D,.int .i64 Wr.size] (F i) fun r w' => r = .returned (.tuple #[.string T1,.int .i64 n1,.int .i64 e1]) /\ ∃ j,w'=F j) /\ Hid (∀ i,Below W2.heap.size W2 (F i)) :=
  ⟨{ u:World // Below W2.heap.size W2 u },⟨⟨W2,Below.refl _ _⟩⟩,Subtype.val,⟨⟨W2.drew,(Below.refl _ _).drew⟩,rfl⟩,fun i => (i.2.cell (p:=⟨X,1,none⟩) hXl).trans x1,fun i => (i.2.cell (p:=⟨X,2,none⟩) hXl).trans x2,fun i => (HIN.out i.1).mono fun r w' ⟨h1,h2⟩ => ⟨h1,⟨w',i.2.trans (h2.mono i.2.size)⟩,rfl⟩,fun i => i.2⟩
 refine region_class (F:=F) (by kernel_rfl) (by kernel_rfl) hF0 ?_
 repeat (go_big_quiet_step ((go_at_call 47;exact hF3.out _)))
 refine wpQuiet_nil ?_
 intro w3 hw3
 have HB3:Hid (Below W2.heap.size W2 w3):=by
  obtain ⟨i,rfl⟩:=hw3
  exact hF4.out i
 have HX3:Hid (w3.heap[X]? = some (.cells (wcells Z Wr D cl to' fu a b f la 0) 97 (0,0))):=(HB3.out.block X hXl).trans HX2.out
 have HS3:=hid (HS2.out.below HB3.out)
 have HK3:=hid (HK2.out.below HB3.out)
 clear hw3 hF0 hF1 hF2 hF3 hF4 hι F ι x1 x2 hXl
 obtain ⟨-,x1,x2,x3,x4,x5,x6,x7,x8,x9,-,xf⟩:=wblk_cells HX3.out
 have xf5:=xf 5
 have xf6:=xf 6
 have xf7:=xf 7
 have hXl:X < w3.heap.size:=(Array.getElem?_eq_some_iff.1 HX3.out).1
 clear xf
 have hWW:(Wr.toList == Wr.toList)=true:=beq_self_eq_true _
 obtain ⟨hcT,hcF⟩:=HC1.out
 have hlen:(D.size:Int)<=(Wr.size:Int)+5*(((Wr.size:Int)+65534) / 65535)+10*(f:Int):=by
  have h2:=HPT.out.bnd
  rw [szl,szl] at h2
  omega
 have HLEN:=hid hlen
 clear hlen
 rcases HPT.out.cs with ⟨rfl,rfl,rfl⟩ | ⟨rfl,rfl,rfl⟩ | ⟨rfl,rfl,rfl⟩ | ⟨rfl,rfl,rfl⟩
 ·obtain ⟨hT,hn',he⟩:=hcT rfl
  subst he
  subst hn'
  have hT':=hT.symm
  subst hT'
  clear hT hcT hcF HC1 HIN
  obtain ⟨T2,n2,e2,hIN2,hdT,-⟩:=wsome HPT.out HVL.out.1 HVL.out.2.1 hD4
  obtain ⟨hT2,he2⟩:=hdT rfl
  subst he2
  have HIN2:=hid hIN2
  subst hT2
  have hBB:((Wr.extract b Wr.size).toList == (Wr.extract b Wr.size).toList)=true:=beq_self_eq_true _
  clear hIN2 hdT
  cases fu
  all_goals
   go_upto_region 20 with fail
   obtain ⟨ι,hι,F,hF0,hF1,hF2,hF6,hF3,hF4⟩:∃ (ι:Type) (_:Nonempty ι) (F:ι->World),(∃ i,w3.drew=F i) /\ (∀ i,(F i).cell? ⟨X,1,none⟩=some (.string Wr)) /\ (∀ i,(F i).cell? ⟨X,2,none⟩=some (.string D)) /\ (∀ i,(F i).cell? ⟨X,6,none⟩=some (.int .i64 a)) /\ Hid (∀ i,Calls Tryz.prog 47 #[.string (D.extract a D.size),.int .i64 Wr.size] (F i) fun r w' => r = .returned (.tuple #[.string (Wr.extract b Wr.size),.int .i64 n2,.int .i64 ((0:Nat):Int)]) /\ ∃ j,w'=F j) /\ Hid (∀ i,Below w3.heap.size w3 (F i)) :=
    ⟨{ u:World // Below w3.heap.size w3 u },⟨⟨w3,Below.refl _ _⟩⟩,Subtype.val,⟨⟨w3.drew,(Below.refl _ _).drew⟩,rfl⟩,fun i => (i.2.cell (p:=⟨X,1,none⟩) hXl).trans x1,fun i => (i.2.cell (p:=⟨X,2,none⟩) hXl).trans x2,fun i => (i.2.cell (p:=⟨X,6,none⟩) hXl).trans x6,fun i => (HIN2.out i.1).mono fun r w' ⟨h1,h2⟩ => ⟨h1,⟨w',i.2.trans (h2.mono i.2.size)⟩,rfl⟩,fun i => i.2⟩
   clear x1 x2 x3 x4 x5 x6 x7 x8 x9 xf5 xf6 xf7
   refine region_class (F:=F) (by kernel_rfl) (by kernel_rfl) hF0 ?_
   repeat (go_big_quiet_step ((go_at_call 47;exact hF3.out _)))
   refine wpQuiet_nil ?_
   intro w4 hw4
   have HB4:Hid (Below w3.heap.size w3 w4):=by
    obtain ⟨i,rfl⟩:=hw4
    exact hF4.out i
   have HX4:=hid ((HB4.out.block X hXl).trans HX3.out)
   clear hw4 hF0 hF1 hF2 hF3 hF4 hF6 hι F ι hXl
   obtain ⟨-,x1,x2,x3,x4,-,-,x7,x8,-,-,-⟩:=wblk_cells HX4.out
   go_wp2
   go_quiet (fail)
   have HX5:Hid ((w4.drewN nq).heap[X]? = _):=HX4.out
   have HB5:Hid (Below w3.heap.size w3 (w4.drewN nq)):=⟨HB4.out.os,HB4.out.tape,HB4.out.output,HB4.out.size,HB4.out.block⟩
   generalize w4.drewN nq=w5 at HX5 HB5 ⊢
   clear x1 x2 x3 x4 x7 x8
   obtain ⟨-,x1,x2,x3,x4,-,-,x7,x8,-,-,-⟩:=wblk_cells HX5.out
   go_upto_region 25 with fail
   have hlen:=decide_eq_true HLEN.out
   go_quiet (fail)
   clear hlen
   have HX6:Hid ((w5.drewN nq).heap[X]? = _):=HX5.out
   have HB6:Hid (Below w3.heap.size w3 (w5.drewN nq)):=⟨HB5.out.os,HB5.out.tape,HB5.out.output,HB5.out.size,HB5.out.block⟩
   generalize w5.drewN nq=w6 at HX6 HB6 ⊢
   go_wp2
   go_ret
   exact ⟨rfl,_,⟨Z,Wr,D,_,_,_,_,_,_,0,g,c,t,lv,hs,Op1,rfl,HX6.out,HS3.out.below HB6.out,HPT.out,HWN.out⟩,HK3.out.below HB6.out⟩
 ·obtain ⟨he,-,hT0⟩:=hcF rfl
  subst he
  have hT':=(hT0 rfl).symm
  subst hT'
  clear hT0 hcT hcF HC1 HIN
  obtain ⟨h4D,h4E⟩:=wfour HPT.out HVL.out.1 HVL.out.2.1
  cases fu
  ·obtain ⟨T2,n2,e2,hIN2,-,hdF⟩:=wsome HPT.out HVL.out.1 HVL.out.2.1 hD4
   obtain ⟨he2,-,hT2⟩:=hdF rfl
   have hT2':=hT2 rfl
   subst he2
   have HIN2:=hid hIN2
   subst hT2'
   have hBB:((Wr.extract b Wr.size).toList == (Wr.extract b Wr.size).toList)=true:=beq_self_eq_true _
   clear hIN2 hdF hT2
   go_upto_region 20 with (go_at_call 59;refine (begins_any _ Wr Wr (List.prefix_refl _)).mono ?_;rintro e0 w0 ⟨rfl,rfl⟩)
   obtain ⟨ι,hι,F,hF0,hF1,hF2,hF6,hF3,hF4⟩:∃ (ι:Type) (_:Nonempty ι) (F:ι->World),(∃ i,w3.drew=F i) /\ (∀ i,(F i).cell? ⟨X,1,none⟩=some (.string Wr)) /\ (∀ i,(F i).cell? ⟨X,2,none⟩=some (.string D)) /\ (∀ i,(F i).cell? ⟨X,6,none⟩=some (.int .i64 a)) /\ Hid (∀ i,Calls Tryz.prog 47 #[.string (D.extract a D.size),.int .i64 Wr.size] (F i) fun r w' => r = .returned (.tuple #[.string (Wr.extract b Wr.size),.int .i64 n2,.int .i64 ((1:Nat):Int)]) /\ ∃ j,w'=F j) /\ Hid (∀ i,Below w3.heap.size w3 (F i)) :=
    ⟨{ u:World // Below w3.heap.size w3 u },⟨⟨w3,Below.refl _ _⟩⟩,Subtype.val,⟨⟨w3.drew,(Below.refl _ _).drew⟩,rfl⟩,fun i => (i.2.cell (p:=⟨X,1,none⟩) hXl).trans x1,fun i => (i.2.cell (p:=⟨X,2,none⟩) hXl).trans x2,fun i => (i.2.cell (p:=⟨X,6,none⟩) hXl).trans x6,fun i => (HIN2.out i.1).mono fun r w' ⟨h1,h2⟩ => ⟨h1,⟨w',i.2.trans (h2.mono i.2.size)⟩,rfl⟩,fun i => i.2⟩
   clear x1 x2 x3 x4 x5 x6 x7 x8 x9 xf5 xf6 xf7
   refine region_class (F:=F) (by kernel_rfl) (by kernel_rfl) hF0 ?_
   repeat (go_big_quiet_step ((go_at_call 47;exact hF3.out _)))
   refine wpQuiet_nil ?_
   intro w4 hw4
   have HB4:Hid (Below w3.heap.size w3 w4):=by
    obtain ⟨i,rfl⟩:=hw4
    exact hF4.out i
   have HX4:=hid ((HB4.out.block X hXl).trans HX3.out)
   clear hw4 hF0 hF1 hF2 hF3 hF4 hF6 hι F ι hXl
   obtain ⟨-,x1,x2,x3,x4,-,-,x7,x8,-,-,-⟩:=wblk_cells HX4.out
   go_wp2
   go_quiet (fail)
   have HX5:Hid ((w4.drewN nq).heap[X]? = _):=HX4.out
   have HB5:Hid (Below w3.heap.size w3 (w4.drewN nq)):=⟨HB4.out.os,HB4.out.tape,HB4.out.output,HB4.out.size,HB4.out.block⟩
   generalize w4.drewN nq=w5 at HX5 HB5 ⊢
   clear x1 x2 x3 x4 x7 x8
   obtain ⟨-,x1,x2,x3,x4,-,-,x7,x8,-,-,-⟩:=wblk_cells HX5.out
   go_upto_region 25 with (go_at_call 59;refine (begins_any _ (Wr.extract b Wr.size) (Wr.extract b Wr.size) (List.prefix_refl _)).mono ?_;rintro e0 w0 ⟨rfl,rfl⟩)
   have hlen:=decide_eq_true HLEN.out
   go_quiet (fail)
   clear hlen
   have HX6:Hid ((w5.drewN nq).heap[X]? = _):=HX5.out
   have HB6:Hid (Below w3.heap.size w3 (w5.drewN nq)):=⟨HB5.out.os,HB5.out.tape,HB5.out.output,HB5.out.size,HB5.out.block⟩
   generalize w5.drewN nq=w6 at HX6 HB6 ⊢
   go_wp2
   go_ret
   exact ⟨rfl,_,⟨Z,Wr,D,_,_,_,_,_,_,0,g,c,t,lv,hs,Op1,rfl,HX6.out,HS3.out.below HB6.out,HPT.out,HWN.out⟩,HK3.out.below HB6.out⟩
  ·go_upto_region 20 with (go_at_call 59;refine (begins_any _ Wr Wr (List.prefix_refl _)).mono ?_;rintro e0 w0 ⟨rfl,rfl⟩)
   obtain ⟨a2,ha2⟩:∃ a2:Nat,a2=D.size:=⟨_,rfl⟩
   obtain ⟨b2,hb2⟩:∃ b2:Nat,b2=Wr.size:=⟨_,rfl⟩
   have haD2:a2<=D.size:=by omega
   have hbW2:b2<=Wr.size:=by omega
   have HX9:Hid ((((w3.setCell ⟨X,6,none⟩ (.int .i64 D.size)).setCell ⟨X,7,none⟩ (.int .i64 Wr.size)).setCell ⟨X,5,none⟩ (.bool false)).heap[X]? = some (.cells (wcells Z Wr D false true false a2 b2 f true 0) 97 (0,0))):=by
    rw [blk_set (blk_set (blk_set HX3.out _ _) _ _),ha2,hb2]
    rfl
   have HS9:Hid (Sm (((w3.setCell ⟨X,6,none⟩ (.int .i64 D.size)).setCell ⟨X,7,none⟩ (.int .i64 Wr.size)).setCell ⟨X,5,none⟩ (.bool false)) Op1 Z g c t lv hs false):=((HS3.out.setx HX3.out 6 _).setx (blk_set HX3.out _ _) 7 _).setx (blk_set (blk_set HX3.out _ _) _ _) 5 _
   have HK9:Hid (To (SmO X Op) (SmO X Op1) w (((w3.setCell ⟨X,6,none⟩ (.int .i64 D.size)).setCell ⟨X,7,none⟩ (.int .i64 Wr.size)).setCell ⟨X,5,none⟩ (.bool false))):=⟨((HK3.out.fr.set ⟨X,6,none⟩ (.inl rfl) _).set ⟨X,7,none⟩ (.inl rfl) _).set ⟨X,5,none⟩ (.inl rfl) _,HK3.out.new⟩
   generalize ((w3.setCell ⟨X,6,none⟩ (.int .i64 D.size)).setCell ⟨X,7,none⟩ (.int .i64 Wr.size)).setCell ⟨X,5,none⟩ (.bool false)=w9 at HX9 HS9 HK9 ⊢
   have hPB:=HPT.out.base HVL.out.1
   rw [szl,szl,<- ha2,<- hb2] at hPB
   have HPB:=hid hPB
   clear hPB ha2 hb2 x1 x2 x3 x4 x5 x6 x7 x8 x9 xf5 xf6 xf7 hXl
   obtain ⟨-,x1,x2,x3,x4,x5,x6,x7,x8,x9,-,xf⟩:=wblk_cells HX9.out
   have xf5:=xf 5
   have xf6:=xf 6
   have xf7:=xf 7
   have hXl:X < w9.heap.size:=(Array.getElem?_eq_some_iff.1 HX9.out).1
   clear xf
   obtain ⟨T2,n2,e2,hIN2,-,hdF⟩:=wsome HPB.out HVL.out.1 HVL.out.2.1 hD4
   obtain ⟨he2,-,hT2⟩:=hdF rfl
   have hT2':=hT2 rfl
   subst he2
   have HIN2:=hid hIN2
   subst hT2'
   have hBB:((Wr.extract b2 Wr.size).toList == (Wr.extract b2 Wr.size).toList)=true:=beq_self_eq_true _
   clear hIN2 hdF hT2
   obtain ⟨ι,hι,F,hF0,hF1,hF2,hF6,hF3,hF4⟩:∃ (ι:Type) (_:Nonempty ι) (F:ι->World),(∃ i,w9.drew=F i) /\ (∀ i,(F i).cell? ⟨X,1,none⟩=some (.string Wr)) /\ (∀ i,(F i).cell? ⟨X,2,none⟩=some (.string D)) /\ (∀ i,(F i).cell? ⟨X,6,none⟩=some (.int .i64 a2)) /\ Hid (∀ i,Calls Tryz.prog 47 #[.string (D.extract a2 D.size),.int .i64 Wr.size] (F i) fun r w' => r = .returned (.tuple #[.string (Wr.extract b2 Wr.size),.int .i64 n2,.int .i64 ((1:Nat):Int)]) /\ ∃ j,w'=F j) /\ Hid (∀ i,Below w9.heap.size w9 (F i)) :=
    ⟨{ u:World // Below w9.heap.size w9 u },⟨⟨w9,Below.refl _ _⟩⟩,Subtype.val,⟨⟨w9.drew,(Below.refl _ _).drew⟩,rfl⟩,fun i => (i.2.cell (p:=⟨X,1,none⟩) hXl).trans x1,fun i => (i.2.cell (p:=⟨X,2,none⟩) hXl).trans x2,fun i => (i.2.cell (p:=⟨X,6,none⟩) hXl).trans x6,fun i => (HIN2.out i.1).mono fun r w' ⟨h1,h2⟩ => ⟨h1,⟨w',i.2.trans (h2.mono i.2.size)⟩,rfl⟩,fun i => i.2⟩
   clear x1 x2 x3 x4 x5 x6 x7 x8 x9 xf5 xf6 xf7
   refine region_class (F:=F) (by kernel_rfl) (by kernel_rfl) hF0 ?_
   repeat (go_big_quiet_step ((go_at_call 47;exact hF3.out _)))
   refine wpQuiet_nil ?_
   intro w4 hw4
   have HB4:Hid (Below w9.heap.size w9 w4):=by
    obtain ⟨i,rfl⟩:=hw4
    exact hF4.out i
   have HX4:=hid ((HB4.out.block X hXl).trans HX9.out)
   clear hw4 hF0 hF1 hF2 hF3 hF4 hF6 hι F ι hXl
   obtain ⟨-,x1,x2,x3,x4,-,-,x7,x8,-,-,-⟩:=wblk_cells HX4.out
   go_wp2
   go_quiet (fail)
   have HX5:Hid ((w4.drewN nq).heap[X]? = _):=HX4.out
   have HB5:Hid (Below w9.heap.size w9 (w4.drewN nq)):=⟨HB4.out.os,HB4.out.tape,HB4.out.output,HB4.out.size,HB4.out.block⟩
   generalize w4.drewN nq=w5 at HX5 HB5 ⊢
   clear x1 x2 x3 x4 x7 x8
   obtain ⟨-,x1,x2,x3,x4,-,-,x7,x8,-,-,-⟩:=wblk_cells HX5.out
   go_upto_region 25 with (go_at_call 59;refine (begins_any _ (Wr.extract b2 Wr.size) (Wr.extract b2 Wr.size) (List.prefix_refl _)).mono ?_;rintro e0 w0 ⟨rfl,rfl⟩)
   have hlen:=decide_eq_true HLEN.out
   go_quiet (fail)
   clear hlen
   have HX6:Hid ((w5.drewN nq).heap[X]? = _):=HX5.out
   have HB6:Hid (Below w9.heap.size w9 (w5.drewN nq)):=⟨HB5.out.os,HB5.out.tape,HB5.out.output,HB5.out.size,HB5.out.block⟩
   generalize w5.drewN nq=w6 at HX6 HB6 ⊢
   go_wp2
   go_ret
   exact ⟨rfl,_,⟨Z,Wr,D,_,_,_,_,_,_,0,g,c,t,lv,hs,Op1,rfl,HX6.out,HS9.out.below HB6.out,HPB.out,HWN.out⟩,HK9.out.below HB6.out⟩
 ·obtain ⟨he,-,hT0⟩:=hcF rfl
  subst he
  have hT':=(hT0 rfl).symm
  subst hT'
  clear hT0 hcT hcF HC1 HIN
  obtain ⟨T2,n2,e2,hIN2,-,hdF⟩:=wsome HPT.out HVL.out.1 HVL.out.2.1 hD4
  obtain ⟨he2,-,hT2⟩:=hdF rfl
  have hT2':=hT2 rfl
  subst he2
  have HIN2:=hid hIN2
  subst hT2'
  have hBB:((Wr.extract b Wr.size).toList == (Wr.extract b Wr.size).toList)=true:=beq_self_eq_true _
  clear hIN2 hdF hT2
  cases fu
  all_goals
   go_upto_region 20 with (go_at_call 59;refine (begins_any _ Wr Wr (List.prefix_refl _)).mono ?_;rintro e0 w0 ⟨rfl,rfl⟩)
   obtain ⟨ι,hι,F,hF0,hF1,hF2,hF6,hF3,hF4⟩:∃ (ι:Type) (_:Nonempty ι) (F:ι->World),(∃ i,w3.drew=F i) /\ (∀ i,(F i).cell? ⟨X,1,none⟩=some (.string Wr)) /\ (∀ i,(F i).cell? ⟨X,2,none⟩=some (.string D)) /\ (∀ i,(F i).cell? ⟨X,6,none⟩=some (.int .i64 a)) /\ Hid (∀ i,Calls Tryz.prog 47 #[.string (D.extract a D.size),.int .i64 Wr.size] (F i) fun r w' => r = .returned (.tuple #[.string (Wr.extract b Wr.size),.int .i64 n2,.int .i64 ((1:Nat):Int)]) /\ ∃ j,w'=F j) /\ Hid (∀ i,Below w3.heap.size w3 (F i)) :=
    ⟨{ u:World // Below w3.heap.size w3 u },⟨⟨w3,Below.refl _ _⟩⟩,Subtype.val,⟨⟨w3.drew,(Below.refl _ _).drew⟩,rfl⟩,fun i => (i.2.cell (p:=⟨X,1,none⟩) hXl).trans x1,fun i => (i.2.cell (p:=⟨X,2,none⟩) hXl).trans x2,fun i => (i.2.cell (p:=⟨X,6,none⟩) hXl).trans x6,fun i => (HIN2.out i.1).mono fun r w' ⟨h1,h2⟩ => ⟨h1,⟨w',i.2.trans (h2.mono i.2.size)⟩,rfl⟩,fun i => i.2⟩
   clear x1 x2 x3 x4 x5 x6 x7 x8 x9 xf5 xf6 xf7
   refine region_class (F:=F) (by kernel_rfl) (by kernel_rfl) hF0 ?_
   repeat (go_big_quiet_step ((go_at_call 47;exact hF3.out _)))
   refine wpQuiet_nil ?_
   intro w4 hw4
   have HB4:Hid (Below w3.heap.size w3 w4):=by
    obtain ⟨i,rfl⟩:=hw4
    exact hF4.out i
   have HX4:=hid ((HB4.out.block X hXl).trans HX3.out)
   clear hw4 hF0 hF1 hF2 hF3 hF4 hF6 hι F ι hXl
   obtain ⟨-,x1,x2,x3,x4,-,-,x7,x8,-,-,-⟩:=wblk_cells HX4.out
   go_wp2
   go_quiet (fail)
   have HX5:Hid ((w4.drewN nq).heap[X]? = _):=HX4.out
   have HB5:Hid (Below w3.heap.size w3 (w4.drewN nq)):=⟨HB4.out.os,HB4.out.tape,HB4.out.output,HB4.out.size,HB4.out.block⟩
   generalize w4.drewN nq=w5 at HX5 HB5 ⊢
   clear x1 x2 x3 x4 x7 x8
   obtain ⟨-,x1,x2,x3,x4,-,-,x7,x8,-,-,-⟩:=wblk_cells HX5.out
   go_upto_region 25 with (go_at_call 59;refine (begins_any _ (Wr.extract b Wr.size) (Wr.extract b Wr.size) (List.prefix_refl _)).mono ?_;rintro e0 w0 ⟨rfl,rfl⟩)
   have hlen:=decide_eq_true HLEN.out
   go_quiet (fail)
   clear hlen
   have HX6:Hid ((w5.drewN nq).heap[X]? = _):=HX5.out
   have HB6:Hid (Below w3.heap.size w3 (w5.drewN nq)):=⟨HB5.out.os,HB5.out.tape,HB5.out.output,HB5.out.size,HB5.out.block⟩
   generalize w5.drewN nq=w6 at HX6 HB6 ⊢
   go_wp2
   go_ret
   exact ⟨rfl,_,⟨Z,Wr,D,_,_,_,_,_,_,0,g,c,t,lv,hs,Op1,rfl,HX6.out,HS3.out.below HB6.out,HPT.out,HWN.out⟩,HK3.out.below HB6.out⟩
 ·obtain ⟨he,hp1,-⟩:=hcF rfl
  subst he
  have HP1:=hid hp1
  clear hp1 hcT hcF HC1 HIN
  obtain ⟨T2,n2,e2,hIN2,-,hdF⟩:=wsome HPT.out HVL.out.1 HVL.out.2.1 hD4
  obtain ⟨he2,hp2,-⟩:=hdF rfl
  have HP2:=hid hp2
  subst he2
  have HIN2:=hid hIN2
  clear hIN2 hdF hp2
  cases fu
  all_goals
   go_upto_region 20 with (go_at_call 59;refine (begins_any _ Wr T1 HP1.out).mono ?_;rintro e0 w0 ⟨rfl,rfl⟩)
   obtain ⟨ι,hι,F,hF0,hF1,hF2,hF6,hF3,hF4⟩:∃ (ι:Type) (_:Nonempty ι) (F:ι->World),(∃ i,w3.drew=F i) /\ (∀ i,(F i).cell? ⟨X,1,none⟩=some (.string Wr)) /\ (∀ i,(F i).cell? ⟨X,2,none⟩=some (.string D)) /\ (∀ i,(F i).cell? ⟨X,6,none⟩=some (.int .i64 a)) /\ Hid (∀ i,Calls Tryz.prog 47 #[.string (D.extract a D.size),.int .i64 Wr.size] (F i) fun r w' => r = .returned (.tuple #[.string T2,.int .i64 n2,.int .i64 ((1:Nat):Int)]) /\ ∃ j,w'=F j) /\ Hid (∀ i,Below w3.heap.size w3 (F i)) :=
    ⟨{ u:World // Below w3.heap.size w3 u },⟨⟨w3,Below.refl _ _⟩⟩,Subtype.val,⟨⟨w3.drew,(Below.refl _ _).drew⟩,rfl⟩,fun i => (i.2.cell (p:=⟨X,1,none⟩) hXl).trans x1,fun i => (i.2.cell (p:=⟨X,2,none⟩) hXl).trans x2,fun i => (i.2.cell (p:=⟨X,6,none⟩) hXl).trans x6,fun i => (HIN2.out i.1).mono fun r w' ⟨h1,h2⟩ => ⟨h1,⟨w',i.2.trans (h2.mono i.2.size)⟩,rfl⟩,fun i => i.2⟩
   clear x1 x2 x3 x4 x5 x6 x7 x8 x9 xf5 xf6 xf7
   refine region_class (F:=F) (by kernel_rfl) (by kernel_rfl) hF0 ?_
   repeat (go_big_quiet_step ((go_at_call 47;exact hF3.out _)))
   refine wpQuiet_nil ?_
   intro w4 hw4
   have HB4:Hid (Below w3.heap.size w3 w4):=by
    obtain ⟨i,rfl⟩:=hw4
    exact hF4.out i
   have HX4:=hid ((HB4.out.block X hXl).trans HX3.out)
   clear hw4 hF0 hF1 hF2 hF3 hF4 hF6 hι F ι hXl
   obtain ⟨-,x1,x2,x3,x4,-,-,x7,x8,-,-,-⟩:=wblk_cells HX4.out
   go_wp2
   go_quiet (fail)
   have HX5:Hid ((w4.drewN nq).heap[X]? = _):=HX4.out
   have HB5:Hid (Below w3.heap.size w3 (w4.drewN nq)):=⟨HB4.out.os,HB4.out.tape,HB4.out.output,HB4.out.size,HB4.out.block⟩
   generalize w4.drewN nq=w5 at HX5 HB5 ⊢
   clear x1 x2 x3 x4 x7 x8
   obtain ⟨-,x1,x2,x3,x4,-,-,x7,x8,-,-,-⟩:=wblk_cells HX5.out
   go_upto_region 25 with (go_at_call 59;refine (begins_any _ (Wr.extract b Wr.size) T2 HP2.out).mono ?_;rintro e0 w0 ⟨rfl,rfl⟩)
   have hlen:=decide_eq_true HLEN.out
   go_quiet (fail)
   clear hlen
   have HX6:Hid ((w5.drewN nq).heap[X]? = _):=HX5.out
   have HB6:Hid (Below w3.heap.size w3 (w5.drewN nq)):=⟨HB5.out.os,HB5.out.tape,HB5.out.output,HB5.out.size,HB5.out.block⟩
   generalize w5.drewN nq=w6 at HX6 HB6 ⊢
   go_wp2
   go_ret
   exact ⟨rfl,_,⟨Z,Wr,D,_,_,_,_,_,_,0,g,c,t,lv,hs,Op1,rfl,HX6.out,HS3.out.below HB6.out,HPT.out,HWN.out⟩,HK3.out.below HB6.out⟩
end Go.Proofs.YthdmjmnkhlpnnabGreatDoor
