import Derived.Test.YthdmjmnkhlpnnabGreatDoorZ22
import Derived.Test.YthdmjmnkhlpnnabGreatDoorZ07
import Derived.Deep.DrawnRows
namespace Go.Proofs.YthdmjmnkhlpnnabGreatDoor
open Go.RowKit
attribute [local go_sem ↓] Go.wp_at_zero Go.wp_at_succ
def Six (w:World) (hb g n cap i j:Nat) (p q:Pc) (u:World):Prop :=
 u.cell? ⟨hb,0,none⟩=some (.slice (some ⟨g,0,none⟩) n cap) /\ u.cell? ⟨hb,1,none⟩=some (.func (.func 190) #[] #[]) /\ u.cell? ⟨g,i*2,none⟩=some (.int .i64 p.wt) /\ u.cell? ⟨g,i*2+1,none⟩=some (.slice p.ao p.sy.length p.c) /\
  u.cell? ⟨g,j*2,none⟩=some (.int .i64 q.wt) /\ u.cell? ⟨g,j*2+1,none⟩=some (.slice q.ao q.sy.length q.c) /\ Below w.heap.size w u
theorem Six.keep {w:World} {hb g n cap i j:Nat} {p q:Pc} {u u':World} (h:Six w hb g n cap i j p q u) (zb:hb < w.heap.size) (zg:g < w.heap.size) (hb':Below u.heap.size u u'):Six w hb g n cap i j p q u':=by
 obtain ⟨h1,h2,h3,h4,h5,h6,h7⟩:=h
 have hz:=h7.size
 exact ⟨(hb'.cell (p:=⟨hb,0,none⟩) (show hb < u.heap.size by omega)).trans h1,(hb'.cell (p:=⟨hb,1,none⟩) (show hb < u.heap.size by omega)).trans h2,(hb'.cell (p:=⟨g,i*2,none⟩) (show g < u.heap.size by omega)).trans h3,
  (hb'.cell (p:=⟨g,i*2+1,none⟩) (show g < u.heap.size by omega)).trans h4,(hb'.cell (p:=⟨g,j*2,none⟩) (show g < u.heap.size by omega)).trans h5,(hb'.cell (p:=⟨g,j*2+1,none⟩) (show g < u.heap.size by omega)).trans h6,h7.trans (hb'.mono hz)⟩
theorem lighter_six (w:World) (hb g n cap i j:Nat) (p q:Pc) (zb:hb < w.heap.size) (zg:g < w.heap.size) (x y:Int) (v u:Value) (W:World) (h:Six w hb g n cap i j p q W) :
  Calls Tryz.prog 190 #[.agg #[.int .i64 x,v],.agg #[.int .i64 y,u]] W fun e w' => e = .returned (.bool (decide (x < y))) /\ Six w hb g n cap i j p q w':=by
 refine (lighter_any x y v u W).mono ?_
 rintro e w' ⟨rfl,hb'⟩
 exact ⟨rfl,h.keep zb zg hb'⟩
theorem fc_right {ps:List Pc} {i:Nat} (h:2*i+1+1 < ps.length) (hw:wtAt ps (2*i+1+1) < wtAt ps (2*i+1)):fz Pc.wt Pc.zero ps i=2*i+2:=by
 unfold fz
 exact if_pos ⟨h,hw⟩
theorem fc_left {ps:List Pc} {i:Nat} (h:¬ 2*i+1+1 < ps.length ∨ ¬ wtAt ps (2*i+1+1) < wtAt ps (2*i+1)):fz Pc.wt Pc.zero ps i=2*i+1:=by
 unfold fz
 rw [if_neg fun h' => h.elim (fun k => k h'.1) (fun k => k h'.2)]
set_option maxHeartbeats 1000000 in
theorem firstChild_any {w:World} {hb:Nat} {iv:Value} {ps:List Pc} (h:Heap w hb iv ps) (i:Nat) (hi:i<=1000000) (hn:ps.length<=1000000) :
  Calls Tryz.prog 203 #[.pointer (some ⟨hb,0,none⟩),.int .i64 i] w fun e w' => ∃ c:Nat,e = .returned (.int .i64 c) /\ FC ps i c /\ c=fz Pc.wt Pc.zero ps i /\ Below w.heap.size w w':=by
 have HH:Hid (Heap w hb iv ps):=h
 by_cases hr:2*i+1+1 < ps.length
 ·obtain ⟨g,cap,cur,e,hbg,hg,hnc,hcm,hcs,ht⟩:=h.at (by omega)
  have c0:=h.cell0
  rw [e] at c0
  have c1:=h.cell1
  obtain ⟨r1,r2,_,_⟩:=row_get hg ht hr
  obtain ⟨l1,l2,_,_⟩:=row_get hg ht (show 2*i+1 < ps.length by omega)
  obtain ⟨pr,hpr⟩:∃ p,p=ps.getD (2*i+1+1) Pc.zero:=⟨_,rfl⟩
  obtain ⟨pl,hpl⟩:∃ p,p=ps.getD (2*i+1) Pc.zero:=⟨_,rfl⟩
  rw [<- hpr] at r1 r2
  rw [<- hpl] at l1 l2
  have HPR:Hid (pr=ps.getD (2*i+1+1) Pc.zero):=hpr
  have HPL:Hid (pl=ps.getD (2*i+1) Pc.zero):=hpl
  have b1:(0:Int)<=2*(i:Int)+1:=by omega
  have b2:2*(i:Int)+1 < (ps.length:Int):=by omega
  have b3:(0:Int)<=2*(i:Int)+1+1:=by omega
  have b4:2*(i:Int)+1+1 < (ps.length:Int):=by omega
  have e1:(2*(i:Int)+1).toNat=2*i+1:=by omega
  have e2:(2*(i:Int)+1+1).toNat=2*i+1+1:=by omega
  have hd0:Below w.heap.size w w.drew:=(Below.refl _ _).drew
  have zb:=h.lt
  have zg:g < w.heap.size:=(Array.getElem?_eq_some_iff.1 hg).1
  clear h hpr hpl e hg hnc hcm hcs ht hbg
  go_enter Tryz.func203,Tryz.ntmps203
  go_wp2
  go_region_held3 (fun w' => w'.cell? ⟨hb,0,none⟩=some (.slice (some ⟨g,0,none⟩) ps.length cap) /\ w'.cell? ⟨hb,1,none⟩=some (.func (.func 190) #[] #[]) /\ w'.cell? ⟨g,(2*i+1+1)*2,none⟩=some (.int .i64 pr.wt) /\ w'.cell? ⟨g,(2*i+1+1)*2+1,none⟩=some (.slice pr.ao pr.sy.length pr.c) /\ w'.cell? ⟨g,(2*i+1)*2,none⟩=some (.int .i64 pl.wt) /\ w'.cell? ⟨g,(2*i+1)*2+1,none⟩=some (.slice pl.ao pl.sy.length pl.c) /\ Below w.heap.size w w') (go_keep) ((go_at_call 190;refine (lighter_six w hb g ps.length cap (2*i+1+1) (2*i+1) pr pl zb zg _ _ _ _ _ ?_).mono ?_;(refine ⟨?_,?_,?_,?_,?_,?_,?_⟩ <;> assumption);rintro e w' ⟨rfl,g1,g2,g3,g4,g5,g6,g7⟩))
  all_goals go_wp2
  all_goals go_ret
  ·have hlt:pr.wt < pl.wt:=by assumption
   refine ⟨2*i+2,ret_int' (by omega),⟨.inr rfl,fun _ => ⟨by omega,fun j hj hjl => ?_⟩⟩,(fc_right hr (by unfold wtAt;rw [<- HPR.out,<- HPL.out];exact hlt)).symm,by assumption⟩
   have e1:wtAt ps (2*i+2)=pr.wt:=by rw [HPR.out];rfl
   have e2:wtAt ps (2*i+1)=pl.wt:=by rw [HPL.out];rfl
   rcases hj with rfl | rfl <;> omega
  ·have hge:pl.wt<=pr.wt:=by assumption
   refine ⟨2*i+1,ret_int' (by omega),⟨.inl rfl,fun _ => ⟨by omega,fun j hj hjl => ?_⟩⟩,(fc_left (.inr (by unfold wtAt;rw [<- HPR.out,<- HPL.out];omega))).symm,by assumption⟩
   have e1:wtAt ps (2*i+2)=pr.wt:=by rw [HPR.out];rfl
   have e2:wtAt ps (2*i+1)=pl.wt:=by rw [HPL.out];rfl
   rcases hj with rfl | rfl <;> omega
 ·by_cases hl:2*i+1 < ps.length
  ·obtain ⟨g,cap,cur,e,hbg,hg,hnc,hcm,hcs,ht⟩:=h.at (by omega)
   have c0:=h.cell0
   rw [e] at c0
   have d1:decide (2*(i:Int)+1+1 < (ps.length:Int))=false:=by simp;omega
   clear h e hg hnc hcm hcs ht hbg
   go_enter Tryz.func203,Tryz.ntmps203
   go_wp2
   go_quiet (fail)
   go_wp2
   go_ret
   exact ⟨2*i+1,ret_int' (by omega),⟨.inl rfl,fun _ => ⟨hl,fun j hj hjl => by rcases hj with rfl | rfl;exact Int.le_refl _;omega⟩⟩,(fc_left (.inl hr)).symm,below_drewN (Below.refl _ _) _⟩
  ·obtain ⟨ia,ic,hiv,_⟩:=owns_shape h.own
   have c0:=h.cell0
   rw [hiv] at c0
   have d1:decide (2*(i:Int)+1+1 < (ps.length:Int))=false:=by simp;omega
   clear h hiv
   go_enter Tryz.func203,Tryz.ntmps203
   go_wp2
   go_quiet (fail)
   go_wp2
   go_ret
   exact ⟨2*i+1,ret_int' (by omega),⟨.inl rfl,fun hh => absurd hh hl⟩,(fc_left (.inl hr)).symm,below_drewN (Below.refl _ _) _⟩
structure Only (hb:Nat) (iv:Value) (w w':World):Prop where
 os:w'.os=w.os
 tape:w'.tape=w.tape
 output:w'.output=w.output
 size:w.heap.size<=w'.heap.size
 block:∀ k,k < w.heap.size->k ≠ hb->iv.ownBlock ≠ some k->w'.heap[k]? = w.heap[k]?
theorem Only.refl (hb:Nat) (iv:Value) (w:World):Only hb iv w w:=⟨rfl,rfl,rfl,Nat.le_refl _,fun _ _ _ _ => rfl⟩
theorem Only.trans {hb:Nat} {iv:Value} {a b c:World} (h:Only hb iv a b) (k:Only hb iv b c):Only hb iv a c :=
 ⟨k.os.trans h.os,k.tape.trans h.tape,k.output.trans h.output,Nat.le_trans h.size k.size,fun i h1 h2 h3 => (k.block i (by have:=h.size;omega) h2 h3).trans (h.block i h1 h2 h3)⟩
theorem Only.below {hb:Nat} {iv:Value} {a b c:World} (h:Only hb iv a b) (k:Below b.heap.size b c):Only hb iv a c :=
 h.trans ⟨k.os,k.tape,k.output,k.size,fun i h1 _ _ => k.block i h1⟩
theorem Only.set {hb:Nat} {iv:Value} {a b:World} (h:Only hb iv a b) {g:Nat} (hg:iv.ownBlock=some g) (j:Nat) (v:Value):Only hb iv a (b.setCell ⟨g,j,none⟩ v) :=
 h.trans ⟨rfl,rfl,rfl,by simp [World.setCell],fun i _ _ h3 => Below.heap_setCell _ _ _ _ (fun e => h3 (by rw [hg,e]))⟩
theorem Only.to {hb:Nat} {iv:Value} {w w':World} {ps:List Pc} (h:Only hb iv w w') (hh:Heap w hb iv ps):Below hb w w' :=
 ⟨h.os,h.tape,h.output,h.size,fun k hk => h.block k (by have:=hh.lt;omega) (by omega) (fun e => by have:=(hh.own.lt k e).1;omega)⟩
theorem swap_any {w:World} {hb:Nat} {iv:Value} {ps:List Pc} (h:Heap w hb iv ps) (i j:Nat) (hi:i < ps.length) (hj:j < ps.length) (hij:i < j ∨ j < i) :
  Calls Tryz.prog 204 #[.pointer (some ⟨hb,0,none⟩),.int .i64 i,.int .i64 j] w fun e w' => e = .returned (.tuple #[]) /\ Heap w' hb iv (swp ps i j) /\ Only hb iv w w':=by
 obtain ⟨g,cap,cur,e,hbg,hg,hnc,hcm,hcs,ht⟩:=h.at (by omega)
 obtain ⟨i1,i2,i3,i4⟩:=row_get hg ht hi
 obtain ⟨j1,j2,j3,j4⟩:=row_get hg ht hj
 have c0:=h.cell0
 rw [e] at c0
 refine (swap_cells w hb g ps.length cap i j _ _ _ _ _ _ _ _ c0 hi hj (by omega) i1 i2 j1 j2 i3 i4 j3 j4).mono ?_
 rintro en w' ⟨rfl,rfl⟩
 have hob:iv.ownBlock=some g:=by rw [e];rfl
 refine ⟨rfl,?_,(((((Only.refl hb iv w).set hob _ _).set hob _ _).set hob _ _).set hob _ _).below (Below.refl _ _).drew⟩
 have h1:=h.put e i (ps.getD j Pc.zero)
 have h2:=h1.put (g:=g) (cap:=cap) (by rw [e];simp) j (ps.getD i Pc.zero)
 exact h2.below (Below.refl _ _).drew
set_option maxRecDepth 20000 in
set_option maxHeartbeats 2000000 in
theorem rise_any {w:World} {hb:Nat} {iv:Value} {ps:List Pc} (h:Heap w hb iv ps) (a:Nat) (ha:a < ps.length) (hn:ps.length<=1000000) (hu:UpInv ps a) :
  Calls Tryz.prog 200 #[.pointer (some ⟨hb,0,none⟩),.int .i64 a] w fun e w' => e = .returned (.tuple #[]) /\ ∃ ps',Heap w' hb iv ps' /\ ps'.Perm ps /\ HO ps' /\ Only hb iv w w' /\ RiseP ps a ps':=by
 have H0:Hid (Heap w hb iv ps /\ ps.Perm ps /\ UpInv ps a /\ Only hb iv w w /\ ∀ B,RiseP ps a B->RiseP ps a B):=⟨h,List.Perm.refl _,hu,Only.refl _ _ _,fun _ h => h⟩
 clear h hu
 go_enter Tryz.func200,Tryz.ntmps200
 go_wp2
 go_loopw [1] (fun s wr => ∃ (k:Nat) (qs:List Pc),k < ps.length /\ s = .int .i64 k /\ Hid (Heap wr hb iv qs /\ qs.Perm ps /\ UpInv qs k /\ Only hb iv w wr /\ ∀ B,RiseP qs k B->RiseP ps a B)) (fun s _ => (intOf s).toNat)
 case atStart => exact ⟨a,ps,ha,rfl,H0.out⟩
 case round =>
  clear H0
  obtain ⟨k,qs,hk,rfl,HS⟩:=hrel
  have hlen:qs.length=ps.length:=HS.out.2.1.length_eq
  by_cases hk0:0 < k
  ·have hql:qs.length<=1000000:=by omega
   have hkq:k < qs.length:=by omega
   have HL:Hid (qs.length=ps.length):=hlen
   clear hlen
   obtain ⟨p,hp⟩:∃ p:Nat,p=(k - 1) / 2:=⟨_,rfl⟩
   have hpk:p < k:=by omega
   have hpe:((k:Int) - 1) / 2=(p:Int):=by omega
   have HP:Hid (p=(k - 1) / 2):=hp
   obtain ⟨g,cap,cur,e,hbg,hg,hnc,hcm,hcs,ht⟩:=HS.out.1.at (by omega)
   have c0:=HS.out.1.cell0
   rw [e] at c0
   have c1:=HS.out.1.cell1
   obtain ⟨k1,k2,_,_⟩:=row_get hg ht hkq
   obtain ⟨p1,p2,_,_⟩:=row_get hg ht (show p < qs.length by omega)
   obtain ⟨pk,hpk'⟩:∃ q,q=qs.getD k Pc.zero:=⟨_,rfl⟩
   obtain ⟨pp,hpp⟩:∃ q,q=qs.getD p Pc.zero:=⟨_,rfl⟩
   rw [<- hpk'] at k1 k2
   rw [<- hpp] at p1 p2
   have HPK:Hid (pk=qs.getD k Pc.zero):=hpk'
   have HPP:Hid (pp=qs.getD p Pc.zero):=hpp
   have hd0:Below wr.heap.size wr wr.drew:=(Below.refl _ _).drew
   have zb:=HS.out.1.lt
   have zg:g < wr.heap.size:=(Array.getElem?_eq_some_iff.1 hg).1
   have b1:(0:Int)<=(k:Int):=by omega
   have b2:(k:Int) < (qs.length:Int):=by omega
   have b3:(0:Int)<=(p:Int):=by omega
   have b4:(p:Int) < (qs.length:Int):=by omega
   clear hp hpk' hpp e hg hnc hcm hcs ht hbg
   by_cases hw:pk.wt < pp.wt
   ·have hwb:decide (pk.wt < pp.wt)=true:=by simpa using hw
    go_wp2
    go_region_held3 (fun w' => w'.cell? ⟨hb,0,none⟩=some (.slice (some ⟨g,0,none⟩) qs.length cap) /\ w'.cell? ⟨hb,1,none⟩=some (.func (.func 190) #[] #[]) /\ w'.cell? ⟨g,k*2,none⟩=some (.int .i64 pk.wt) /\ w'.cell? ⟨g,k*2+1,none⟩=some (.slice pk.ao pk.sy.length pk.c) /\ w'.cell? ⟨g,p*2,none⟩=some (.int .i64 pp.wt) /\ w'.cell? ⟨g,p*2+1,none⟩=some (.slice pp.ao pp.sy.length pp.c) /\ Below wr.heap.size wr w') (go_keep) ((go_at_call 190;refine (lighter_six wr hb g qs.length cap k p pk pp zb zg _ _ _ _ _ ?_).mono ?_;(refine ⟨?_,?_,?_,?_,?_,?_,?_⟩ <;> assumption);rintro e w' ⟨rfl,g1,g2,g3,g4,g5,g6,g7⟩))
    have HH:Hid (Heap w' hb iv qs):=HS.out.1.below g7
    have HG7:Hid (Below wr.heap.size wr w'):=g7
    clear g1 g2 g3 g4 g5 g6 g7 c0 c1 k1 k2 p1 p2 hd0
    go_wp2_with (go_at_call 204;refine (swap_any HH.out k p hkq (by omega) (by omega)).mono ?_;rintro e w2 ⟨rfl,hh2,ho2⟩;have HH2:=hid hh2;have HO2:=hid ho2;clear hh2 ho2)
    go_roundw
    case rel =>
     refine ⟨p,swp qs k p,by omega,by go_num,HH2.out,(swp_perm qs k p hkq (by omega)).trans HS.out.2.1,?_,(HS.out.2.2.2.1.below HG7.out).trans HO2.out,fun B hB => HS.out.2.2.2.2 B ?_⟩
     ·have:=up_step HS.out.2.2.1 hk0 hkq (by rw [<- HP.out];unfold wtAt;rw [<- HPK.out,<- HPP.out];exact hw)
      rw [<- HP.out] at this
      exact this
     ·refine Rise.step _ _ _ hk0 (by rw [<- HP.out,wz_pc,wz_pc];unfold wtAt;rw [<- HPK.out,<- HPP.out];exact hw) ?_
      rw [<- HP.out]
      exact hB
    case measure => simp [intOf];omega
   ·have hwb:decide (pk.wt < pp.wt)=false:=by simpa using hw
    go_wp2
    go_region_held3 (fun w' => w'.cell? ⟨hb,0,none⟩=some (.slice (some ⟨g,0,none⟩) qs.length cap) /\ w'.cell? ⟨hb,1,none⟩=some (.func (.func 190) #[] #[]) /\ w'.cell? ⟨g,k*2,none⟩=some (.int .i64 pk.wt) /\ w'.cell? ⟨g,k*2+1,none⟩=some (.slice pk.ao pk.sy.length pk.c) /\ w'.cell? ⟨g,p*2,none⟩=some (.int .i64 pp.wt) /\ w'.cell? ⟨g,p*2+1,none⟩=some (.slice pp.ao pp.sy.length pp.c) /\ Below wr.heap.size wr w') (go_keep) ((go_at_call 190;refine (lighter_six wr hb g qs.length cap k p pk pp zb zg _ _ _ _ _ ?_).mono ?_;(refine ⟨?_,?_,?_,?_,?_,?_,?_⟩ <;> assumption);rintro e w' ⟨rfl,g1,g2,g3,g4,g5,g6,g7⟩))
    have HG7:Hid (Below wr.heap.size wr w'):=g7
    clear g1 g2 g3 g4 g5 g6 g7 c0 c1 k1 k2 p1 p2 hd0
    go_wp2
    refine bodyPost_ret (results_none Tryz.results200 _ _ _) rfl ⟨rfl,qs,HS.out.1.below HG7.out,HS.out.2.1,up_end HS.out.2.2.1 ?_,HS.out.2.2.2.1.below HG7.out,HS.out.2.2.2.2 _ (Rise.stop _ _ hk0 ?_)⟩
    ·rw [<- HP.out]
     unfold wtAt
     rw [<- HPK.out,<- HPP.out]
     omega
    ·rw [<- HP.out,wz_pc,wz_pc]
     unfold wtAt
     rw [<- HPK.out,<- HPP.out]
     omega
  ·go_wp2
   go_end0
   have e0:k=0:=by omega
   subst e0
   exact ⟨rfl,qs,HS.out.1,HS.out.2.1,up_end0 HS.out.2.2.1,HS.out.2.2.2.1,HS.out.2.2.2.2 _ (Rise.top _)⟩
set_option maxRecDepth 20000 in
set_option maxHeartbeats 2000000 in
theorem sink_any {w:World} {hb:Nat} {iv:Value} {ps:List Pc} (h:Heap w hb iv ps) (hn:ps.length<=1000000) (hu:DownInv ps 0) :
  Calls Tryz.prog 199 #[.pointer (some ⟨hb,0,none⟩),.int .i64 0] w fun e w' => e = .returned (.tuple #[]) /\ ∃ ps',Heap w' hb iv ps' /\ ps'.Perm ps /\ HO ps' /\ Only hb iv w w' /\ SinkP ps 0 ps':=by
 have H0:Hid (Heap w hb iv ps /\ ps.Perm ps /\ DownInv ps 0 /\ Only hb iv w w /\ ∀ B,SinkP ps 0 B->SinkP ps 0 B):=⟨h,List.Perm.refl _,hu,Only.refl _ _ _,fun _ h => h⟩
 clear h hu
 go_enter Tryz.func199,Tryz.ntmps199
 go_wp2
 go_loopw [1] (fun s wr => ∃ (k:Nat) (qs:List Pc),k<=ps.length /\ s = .int .i64 k /\ Hid (Heap wr hb iv qs /\ qs.Perm ps /\ DownInv qs k /\ Only hb iv w wr /\ ∀ B,SinkP qs k B->SinkP ps 0 B)) (fun s _ => ps.length - (intOf s).toNat)
 case atStart => exact ⟨0,ps,by omega,rfl,H0.out⟩
 case round =>
  clear H0
  obtain ⟨k,qs,hk,rfl,HS⟩:=hrel
  have hlen:qs.length=ps.length:=HS.out.2.1.length_eq
  have hql:qs.length<=1000000:=by omega
  have hkq:k<=qs.length:=by omega
  have HL:Hid (qs.length=ps.length):=hlen
  clear hlen
  go_wp2_with fail
  refine (firstChild_any HS.out.1 k (by omega) hql).mono ?_
  rintro e w1 ⟨c,rfl,hfc,hfe,hb1⟩
  have HFC:=hid hfc
  have HFE:=hid hfe
  clear hfe
  have HB1:=hid hb1
  have H1:Hid (Heap w1 hb iv qs):=HS.out.1.below hb1
  have hcb:k < c /\ c<=2*k+2:=by rcases hfc.1 with h | h <;> omega
  clear hfc hb1
  by_cases hcl:c < qs.length
  ·obtain ⟨g,cap,cur,e,hbg,hg,hnc,hcm,hcs,ht⟩:=H1.out.at (by omega)
   have c0:=H1.out.cell0
   rw [e] at c0
   have c1:=H1.out.cell1
   obtain ⟨k1,k2,_,_⟩:=row_get hg ht hcl
   obtain ⟨p1,p2,_,_⟩:=row_get hg ht (show k < qs.length by omega)
   obtain ⟨pk,hpk'⟩:∃ q,q=qs.getD c Pc.zero:=⟨_,rfl⟩
   obtain ⟨pp,hpp⟩:∃ q,q=qs.getD k Pc.zero:=⟨_,rfl⟩
   rw [<- hpk'] at k1 k2
   rw [<- hpp] at p1 p2
   have HPK:Hid (pk=qs.getD c Pc.zero):=hpk'
   have HPP:Hid (pp=qs.getD k Pc.zero):=hpp
   have hd0:Below w1.heap.size w1 w1.drew:=(Below.refl _ _).drew
   have zb:=H1.out.lt
   have zg:g < w1.heap.size:=(Array.getElem?_eq_some_iff.1 hg).1
   have b1:(0:Int)<=(k:Int):=by omega
   have b2:(k:Int) < (qs.length:Int):=by omega
   have b3:(0:Int)<=(c:Int):=by omega
   have b4:(c:Int) < (qs.length:Int):=by omega
   have d1:decide (qs.length<=c)=false:=by simp;omega
   clear hpk' hpp e hg hnc hcm hcs ht hbg
   by_cases hw:pk.wt < pp.wt
   ·have hwb:decide (pk.wt < pp.wt)=true:=by simpa using hw
    go_wp2
    go_region_held3 (fun w' => w'.cell? ⟨hb,0,none⟩=some (.slice (some ⟨g,0,none⟩) qs.length cap) /\ w'.cell? ⟨hb,1,none⟩=some (.func (.func 190) #[] #[]) /\ w'.cell? ⟨g,c*2,none⟩=some (.int .i64 pk.wt) /\ w'.cell? ⟨g,c*2+1,none⟩=some (.slice pk.ao pk.sy.length pk.c) /\ w'.cell? ⟨g,k*2,none⟩=some (.int .i64 pp.wt) /\ w'.cell? ⟨g,k*2+1,none⟩=some (.slice pp.ao pp.sy.length pp.c) /\ Below w1.heap.size w1 w') (go_keep) ((go_at_call 190;refine (lighter_six w1 hb g qs.length cap c k pk pp zb zg _ _ _ _ _ ?_).mono ?_;(refine ⟨?_,?_,?_,?_,?_,?_,?_⟩ <;> assumption);rintro e w' ⟨rfl,g1,g2,g3,g4,g5,g6,g7⟩))
    have HH:Hid (Heap w' hb iv qs):=H1.out.below g7
    have HG7:Hid (Below w1.heap.size w1 w'):=g7
    clear g1 g2 g3 g4 g5 g6 g7 c0 c1 k1 k2 p1 p2 hd0 d1
    go_wp2_with (go_at_call 204;refine (swap_any HH.out k c (by omega) hcl (by omega)).mono ?_;rintro e w2 ⟨rfl,hh2,ho2⟩;have HH2:=hid hh2;have HO2:=hid ho2;clear hh2 ho2)
    go_roundw
    case rel =>
     refine ⟨c,swp qs k c,by have:=HL.out;omega,by go_num,HH2.out,(swp_perm qs k c (by omega) hcl).trans HS.out.2.1,?_,((HS.out.2.2.2.1.below HB1.out).below HG7.out).trans HO2.out,fun B hB => HS.out.2.2.2.2 B ?_⟩
     ·exact down_step HS.out.2.2.1 HFC.out hcl (by unfold wtAt;rw [<- HPK.out,<- HPP.out];exact hw)
     ·refine Sink.step _ _ _ (by rw [<- HFE.out];exact hcl) (by rw [<- HFE.out,wz_pc,wz_pc];unfold wtAt;rw [<- HPK.out,<- HPP.out];exact hw) ?_
      rw [<- HFE.out]
      exact hB
    case measure => have:=HL.out;simp [intOf];omega
   ·have hwb:decide (pk.wt < pp.wt)=false:=by simpa using hw
    go_wp2
    go_region_held3 (fun w' => w'.cell? ⟨hb,0,none⟩=some (.slice (some ⟨g,0,none⟩) qs.length cap) /\ w'.cell? ⟨hb,1,none⟩=some (.func (.func 190) #[] #[]) /\ w'.cell? ⟨g,c*2,none⟩=some (.int .i64 pk.wt) /\ w'.cell? ⟨g,c*2+1,none⟩=some (.slice pk.ao pk.sy.length pk.c) /\ w'.cell? ⟨g,k*2,none⟩=some (.int .i64 pp.wt) /\ w'.cell? ⟨g,k*2+1,none⟩=some (.slice pp.ao pp.sy.length pp.c) /\ Below w1.heap.size w1 w') (go_keep) ((go_at_call 190;refine (lighter_six w1 hb g qs.length cap c k pk pp zb zg _ _ _ _ _ ?_).mono ?_;(refine ⟨?_,?_,?_,?_,?_,?_,?_⟩ <;> assumption);rintro e w' ⟨rfl,g1,g2,g3,g4,g5,g6,g7⟩))
    have HG7:Hid (Below w1.heap.size w1 w'):=g7
    clear g1 g2 g3 g4 g5 g6 g7 c0 c1 k1 k2 p1 p2 hd0 d1
    go_wp2
    refine bodyPost_ret (results_none Tryz.results199 _ _ _) rfl ⟨rfl,qs,H1.out.below HG7.out,HS.out.2.1,down_end HS.out.2.2.1 HFC.out hcl ?_,(HS.out.2.2.2.1.below HB1.out).below HG7.out,HS.out.2.2.2.2 _ (Sink.stop _ _ ?_)⟩
    ·unfold wtAt
     rw [<- HPK.out,<- HPP.out]
     omega
    ·rw [<- HFE.out,wz_pc,wz_pc]
     unfold wtAt
     rw [<- HPK.out,<- HPP.out]
     omega
  ·obtain ⟨ia,ic,hiv,_⟩:=owns_shape H1.out.own
   have c0:=H1.out.cell0
   rw [hiv] at c0
   have d1:decide (qs.length<=c)=true:=by simp;omega
   clear hiv
   go_wp2
   go_quiet (fail)
   go_wp2
   refine bodyPost_ret (results_none Tryz.results199 _ _ _) rfl ⟨rfl,qs,H1.out.below (below_N _),HS.out.2.1,down_none HS.out.2.2.1 HFC.out hcl,(HS.out.2.2.2.1.below HB1.out).below (below_N _),HS.out.2.2.2.2 _ (Sink.none _ _ (by rw [<- HFE.out];exact hcl))⟩
end Go.Proofs.YthdmjmnkhlpnnabGreatDoor
