import Derived.Test.YthdmjmnkhlpnnabGreatDoorZ23
import Derived.Deep.AppendLies
import Derived.Deep.RegionLaw
import Derived.Test.YthdmjmnkhlpnnabGreatDoorZ07
import Derived.Lib.AppendZeros
import Derived.Deep.LoopGhost
namespace Go.Proofs.YthdmjmnkhlpnnabGreatDoor
open Go.RowKit
attribute [local go_sem ↓] Go.wp_at_zero Go.wp_at_succ
theorem info58:(Tryz.prog.info? 206).map (fun i => (i.zero,i.size,i.bytes))=some (some (.agg #[.int .i64 0,.slice none 0 0]),2,32):=by kernel_rfl
set_option maxHeartbeats 400000 in
theorem heapnew_any (w:World):Calls Tryz.prog 189 #[.func (.func 190) #[] #[]] w fun e w' => e = .returned (.pointer (some ⟨w.heap.size,0,none⟩)) /\ Heap w' w.heap.size (.slice none 0 0) [] /\ Below w.heap.size w w':=by
 go_enter Tryz.func189,Tryz.ntmps189
 go_wp2
 go_ret
 exact ⟨rfl,⟨heap_alloc_new w _,World.ownsRow_nil _ _ _ _⟩,(Below.refl _ _).alloc (Nat.le_refl _) _⟩
theorem Heap.push {w w1:World} {hb:Nat} {iv:Value} {ps:List Pc} {A B:Obj} {p:Pc} {g cap:Nat} (h:Heap w hb iv ps) (hg:((w.alloc A).alloc B).grownBy w1 iv.ownBlock)
  (hown:w1.ownsRow (hb+1) 206 2 (.slice (some ⟨g,0,none⟩) (ps.length+1) cap) (ps.length+1) (flat ps ++ [.int .i64 p.wt,.slice p.ao p.sy.length p.c])) :
  Heap (w1.setCell ⟨hb,0,none⟩ (.slice (some ⟨g,0,none⟩) (ps.length+1) cap)) hb (.slice (some ⟨g,0,none⟩) (ps.length+1) cap) (ps ++ [p]) /\ Below hb w (w1.setCell ⟨hb,0,none⟩ (.slice (some ⟨g,0,none⟩) (ps.length+1) cap)):=by
 have hlt:=h.lt
 have hne:iv.ownBlock ≠ some hb:=owns_type h.own h.blk (by decide)
 have e1:w1.heap[hb]? = w.heap[hb]?:=by
  rw [hg.block hb (by simp;omega) (fun e => hne e.symm),Below.heap_alloc _ _ _ (by simp;omega),Below.heap_alloc _ _ _ hlt]
 refine ⟨⟨?_,?_⟩,?_⟩
 ·rw [setCell_eq_setRow w1 hb 0 #[iv,.func (.func 190) #[] #[]] 258 (0,0) _ (e1.trans h.blk)]
  exact setRow_heap w1 hb #[iv,.func (.func 190) #[] #[]] _ 258 _ (e1.trans h.blk)
 ·rw [flat_append,List.length_append]
  refine owns_kept hown fun k hk => Below.heap_setCell _ _ _ _ ?_
  intro e
  have:=(hown.lt k hk).1
  simp at e
  omega
 ·exact (((((Below.refl hb w).alloc (by omega) A).alloc (by simp;omega) B).grown hg (by simp;omega) (fun k hk => by have:=(h.own.lt k hk).1;omega))).setCell (Nat.le_refl _) _
theorem Heap.push_blk {w w1:World} {hb:Nat} {iv v:Value} {ps:List Pc} {A B:Obj} (h:Heap w hb iv ps) (hv:iv=v) (hg:((w.alloc A).alloc B).drew.grownBy w1 v.ownBlock):w1.heap[hb]? = w.heap[hb]?:=by
 subst hv
 have hlt:=h.lt
 have hne:iv.ownBlock ≠ some hb:=owns_type h.own h.blk (by decide)
 have h1:=hg.block hb (by simp;omega) (fun e => hne e.symm)
 refine h1.trans ?_
 show ((w.alloc A).alloc B).heap[hb]? = _
 rw [Below.heap_alloc _ _ _ (by simp;omega),Below.heap_alloc _ _ _ hlt]
set_option maxRecDepth 20000 in
set_option maxHeartbeats 2000000 in
theorem put_any {w:World} {hb:Nat} {iv:Value} {ps:List Pc} (h:Heap w hb iv ps) (ho:HO ps) (hn:ps.length<=100000) (p:Pc) :
  Calls Tryz.prog 191 #[.pointer (some ⟨hb,0,none⟩),pagg p] w fun e w' => e = .returned (.tuple #[]) /\ ∃ iv' ps',Heap w' hb iv' ps' /\ ps'.Perm (p :: ps) /\ HO ps' /\ Below hb w w' /\ RiseP (ps ++ [p]) ps.length ps':=by
 obtain ⟨i0,hi0,hz0,hz1,hz2⟩:=info_parts info58
 have HH:=hid h
 have HHO:=hid ho
 obtain ⟨ia,ic,hiv,_⟩:=owns_shape h.own
 have c0:=h.cell0
 rw [hiv] at c0
 have f0:=h.free 0
 have hown:=h.own
 have hne:iv.ownBlock ≠ some hb:=owns_type h.own h.blk (by decide)
 have hnw:iv.ownBlock ≠ some w.heap.size:=fun e => by have:=(h.own.lt _ e).2;omega
 rw [hiv] at hown hne hnw
 have hlt:=h.lt
 have HIV:=hid hiv
 have hb1:(hb:Nat) ≠ w.heap.size:=by omega
 have f0a:∀ o:Obj,(w.alloc o).frozen? ⟨hb,0,none⟩=false:=fun o => (World.frozen?_of_block (w:=w) (Below.heap_alloc w o hb hlt)).trans f0
 have f0b:∀ o o':Obj,((w.alloc o).alloc o').frozen? ⟨hb,0,none⟩=false:=fun o o' => (World.frozen?_of_block (w:=w.alloc o) (Below.heap_alloc (w.alloc o) o' hb (by simp;omega))).trans (f0a o)
 clear h ho hiv
 unfold pagg
 go_enter Tryz.func191,Tryz.ntmps191
 go_wp2
 go_region_law
  ((refine step_append_lies _ (by rfl) _ _ _ (by rfl) (hb+1) 206 i0 _ 2 32 Tryz.underlying202 hi0 hz0 hz1 hz2 rfl (by omega) (.slice ia ps.length ic) ps.length (flat ps) (by rfl) (((hown.alloc _).alloc _).drew)
      ⟨w.heap.size+1,0,none⟩ 1 1 [.int .i64 p.wt,.slice p.ao p.sy.length p.c] (by rfl) (by rfl) (by simpa using cells_new (w.alloc (.cells #[.int .i64 p.wt,.slice p.ao p.sy.length p.c] 206)) #[.int .i64 p.wt,.slice p.ao p.sy.length p.c] 206) (by simp [Value.oneCell'])
      (by omega) (by unfold maxLen;omega) (by omega) (by simp;omega) (w.heap.size+1+1) (by simp) ?_;intro gg cap w1 hown1 hgrow hat hlt1;have c0':=(World.cell?_of_block (w:=w) (a:=⟨hb,0,none⟩) (HH.out.push_blk HIV.out hgrow)).trans c0;have f0':=(World.frozen?_of_block (w:=w) (a:=⟨hb,0,none⟩) (HH.out.push_blk HIV.out hgrow)).trans f0))
 all_goals
  obtain ⟨P1,P2⟩:=HH.out.push (p:=p) (by rw [HIV.out];exact ⟨hgrow.os,hgrow.tape,hgrow.output,hgrow.size,hgrow.block⟩) hown1
  have HP1:=hid P1
  have HP2:=hid P2
  clear P1 P2 hown1 hgrow hat hlt1 hown c0 f0 f0a f0b
  go_wp2_with fail
  refine (rise_any HP1.out ps.length (by simp) (by simp;omega) (up_start HHO.out)).mono ?_
  rintro e w2 ⟨rfl,ps',h2,hp,ho',only,hri⟩
  have HR:=hid (show _ /\ _ /\ _ /\ _ /\ _ from ⟨h2,hp,ho',only,hri⟩)
  clear h2 hp ho' only hri
  go_wp2
  go_end0
  exact ⟨rfl,_,ps',HR.out.1,HR.out.2.1.trans List.perm_append_comm,HR.out.2.2.1,HP2.out.trans (HR.out.2.2.2.1.to HP1.out),HR.out.2.2.2.2⟩
end Go.Proofs.YthdmjmnkhlpnnabGreatDoor
namespace Go.Proofs.YthdmjmnkhlpnnabGreatDoor
open Go.RowKit
theorem Heap.cut {w:World} {hb g m cap:Nat} {qs:List Pc} (h:Heap w hb (.slice (some ⟨g,0,none⟩) (m+1) cap) qs) (hq:qs.length=m+1) :
  Heap (w.setCell ⟨hb,0,none⟩ (.slice (some ⟨g,0,none⟩) m cap)) hb (.slice (some ⟨g,0,none⟩) m cap) (qs.take m):=by
 rcases h.own.2 with ⟨e,_⟩ | ⟨g',cap',cur,e,hb',hg,hnc,hcm,hcs,ht⟩
 ·cases e
 ·injection e with e1 e2 e3
  injection e1 with e1
  injection e1 with e1
  subst e1 e3
  have hl:(qs.take m).length=m:=by simp [hq]
  refine ⟨?_,?_⟩
  ·rw [setCell_eq_setRow w hb 0 #[.slice (some ⟨g,0,none⟩) (m+1) cap,.func (.func 190) #[] #[]] 258 (0,0) _ h.blk]
   exact setRow_heap w hb #[.slice (some ⟨g,0,none⟩) (m+1) cap,.func (.func 190) #[] #[]] _ 258 _ h.blk
  ·refine ⟨by rw [flat_length],.inr ⟨g,cap,cur,by rw [hl],hb',?_,by rw [hl];omega,hcm,hcs,?_⟩⟩
   ·rw [Below.heap_setCell _ _ _ _ (by simp;omega)];exact hg
   ·rw [hl,<- flat_take,<- ht,List.take_take,hq]
    congr 1
    omega
set_option maxRecDepth 20000 in
set_option maxHeartbeats 2000000 in
theorem take_none {w:World} {hb:Nat} {iv:Value} (h:Heap w hb iv []) :
  Calls Tryz.prog 188 #[.pointer (some ⟨hb,0,none⟩)] w fun e w' => e = .returned (.tuple #[pagg Pc.zero,.bool false]) /\ Heap w' hb iv [] /\ Below w.heap.size w w':=by
 have HH:=hid h
 obtain ⟨ia,ic,hiv,_⟩:=owns_shape h.own
 have c0:=h.cell0
 rw [hiv] at c0
 have hlt:=h.lt
 clear h hiv
 go_enter Tryz.func188,Tryz.ntmps188
 go_wp2
 have hb2:∀ A B:Obj,Below w.heap.size w ((w.alloc A).alloc B):=fun A B => ((Below.refl _ _).alloc (Nat.le_refl _) A).alloc (by simp) B
 exact bodyPost_ret (v:=.tuple #[.agg #[.int .i64 0,.slice none 0 0],.bool false]) (by simp [results,Tryz.results188,go_sem]) rfl ⟨rfl,HH.out.below (hb2 _ _),hb2 _ _⟩
theorem take_perm {ps:List Pc} {m:Nat} (hm:0 < m) (hl:ps.length=m+1):(ps.getD 0 Pc.zero :: ((ps.set 0 (ps.getD m Pc.zero)).set m Pc.zero).take m).Perm ps /\ ∃ mid,((ps.set 0 (ps.getD m Pc.zero)).set m Pc.zero).take m=ps.getD m Pc.zero :: mid /\ ps=ps.getD 0 Pc.zero :: mid ++ [ps.getD m Pc.zero]:=by
 cases ps with
 | nil => simp at hl
 | cons p0 rest =>
  rcases List.eq_nil_or_concat rest with rfl | ⟨mid,pl,rfl⟩
  ·simp at hl;omega
  ·have hml:mid.length+1=m:=by simp at hl;omega
   subst hml
   have e1:(p0 :: mid.concat pl).getD (mid.length+1) Pc.zero=pl:=by simp
   have e2:(p0 :: mid.concat pl).getD 0 Pc.zero=p0:=rfl
   have e3:(((p0 :: mid.concat pl).set 0 pl).set (mid.length+1) Pc.zero).take (mid.length+1)=pl :: mid:=by
    simp
   rw [e1,e2,e3]
   refine ⟨?_,mid,rfl,by simp⟩
   rw [List.concat_eq_append]
   exact List.Perm.cons _ (List.perm_append_comm (l₁:=[pl]) (l₂:=mid))
theorem old3 {w:World} {b o:Nat} {v:Value} (h:w.cell? ⟨b,o,none⟩=some v):∀ A B C:Obj,(((w.alloc A).alloc B).alloc C).cell? ⟨b,o,none⟩=some v:=fun A B C => by
 have hb:b < w.heap.size:=World.block_lt_of_cell? w _ h
 have h3:Below w.heap.size w (((w.alloc A).alloc B).alloc C):=(((Below.refl _ _).alloc (Nat.le_refl _) A).alloc (by simp) B).alloc (by simp;omega) C
 exact (h3.cell (p:=⟨b,o,none⟩) hb).trans h
theorem old3f {w:World} {b o:Nat} (hb:b < w.heap.size) (h:w.frozen? ⟨b,o,none⟩=false):∀ A B C:Obj,(((w.alloc A).alloc B).alloc C).frozen? ⟨b,o,none⟩=false:=fun A B C => by
 have h3:Below w.heap.size w (((w.alloc A).alloc B).alloc C):=(((Below.refl _ _).alloc (Nat.le_refl _) A).alloc (by simp) B).alloc (by simp;omega) C
 exact (h3.frozen (p:=⟨b,o,none⟩) hb).trans h
theorem take_heap {W:World} {hb g m cap:Nat} {iv:Value} {ps:List Pc} {pl:Pc} (h:Heap W hb iv ps) (e:iv = .slice (some ⟨g,0,none⟩) ps.length cap) (hl:ps.length=m+1) :
  Heap (((((W.setCell ⟨g,0,none⟩ (.int .i64 pl.wt)).setCell ⟨g,1,none⟩ (.slice pl.ao pl.sy.length pl.c)).setCell ⟨g,m*2,none⟩ (.int .i64 0)).setCell ⟨g,m*2+1,none⟩ (.slice none 0 0)).setCell ⟨hb,0,none⟩ (.slice (some ⟨g,0,none⟩) m cap)).drew.drew hb (.slice (some ⟨g,0,none⟩) m cap) (((ps.set 0 pl).set m Pc.zero).take m) /\
  Only hb iv W (((((W.setCell ⟨g,0,none⟩ (.int .i64 pl.wt)).setCell ⟨g,1,none⟩ (.slice pl.ao pl.sy.length pl.c)).setCell ⟨g,m*2,none⟩ (.int .i64 0)).setCell ⟨g,m*2+1,none⟩ (.slice none 0 0)).setCell ⟨hb,0,none⟩ (.slice (some ⟨g,0,none⟩) m cap)).drew.drew:=by
 have hob:iv.ownBlock=some g:=by rw [e];rfl
 have h1:=h.put e 0 pl
 have h2:=h1.put (g:=g) (cap:=cap) (by rw [e];simp) m Pc.zero
 have h3:Heap ((((W.setCell ⟨g,0,none⟩ (.int .i64 pl.wt)).setCell ⟨g,1,none⟩ (.slice pl.ao pl.sy.length pl.c)).setCell ⟨g,m*2,none⟩ (.int .i64 0)).setCell ⟨g,m*2+1,none⟩ (.slice none 0 0)) hb (.slice (some ⟨g,0,none⟩) (m+1) cap) ((ps.set 0 pl).set m Pc.zero):=by
  rw [e,hl] at h2
  exact h2
 refine ⟨((h3.cut (by simp [hl])).below (Below.refl _ _).drew).below (Below.refl _ _).drew,?_⟩
 have o1:=((((Only.refl hb iv W).set hob 0 (.int .i64 pl.wt)).set hob 1 (.slice pl.ao pl.sy.length pl.c)).set hob (m*2) (.int .i64 0)).set hob (m*2+1) (.slice none 0 0)
 have o2:Only hb iv W (((((W.setCell ⟨g,0,none⟩ (.int .i64 pl.wt)).setCell ⟨g,1,none⟩ (.slice pl.ao pl.sy.length pl.c)).setCell ⟨g,m*2,none⟩ (.int .i64 0)).setCell ⟨g,m*2+1,none⟩ (.slice none 0 0)).setCell ⟨hb,0,none⟩ (.slice (some ⟨g,0,none⟩) m cap)) :=
  o1.trans ⟨rfl,rfl,rfl,by simp [World.setCell],fun k _ h2 _ => Below.heap_setCell _ _ _ _ h2⟩
 exact (o2.below (Below.refl _ _).drew).below (Below.refl _ _).drew
theorem only_cell {hb b o:Nat} {iv:Value} {w w':World} (h:Only hb iv w w') (hb':b ≠ hb) (hi:iv.ownBlock ≠ some b) {v:Value} (hv:w.cell? ⟨b,o,none⟩=some v):w'.cell? ⟨b,o,none⟩=some v :=
 (World.cell?_of_block (w:=w) (a:=⟨b,o,none⟩) (h.block b (World.block_lt_of_cell? w _ hv) hb' hi)).trans hv
theorem only_free {hb b o:Nat} {iv:Value} {w w':World} (h:Only hb iv w w') (hb':b ≠ hb) (hi:iv.ownBlock ≠ some b) (hlt:b < w.heap.size) (hv:w.frozen? ⟨b,o,none⟩=false):w'.frozen? ⟨b,o,none⟩=false :=
 (World.frozen?_of_block (w:=w) (a:=⟨b,o,none⟩) (h.block b hlt hb' hi)).trans hv
theorem only_own {hb:Nat} {iv iv':Value} {w w':World} (h:Only hb iv w w') (e:iv.ownBlock=iv'.ownBlock):Only hb iv' w w' :=
 ⟨h.os,h.tape,h.output,h.size,fun k h1 h2 h3 => h.block k h1 h2 (e ▸ h3)⟩
theorem boxes (w:World) (A B C:Array Value):(∀ j v,A[j]? = some v->(((w.alloc (.cells A 206)).alloc (.cells B 206)).alloc (.cells C 206)).cell? ⟨w.heap.size,j,none⟩=some v /\ (((w.alloc (.cells A 206)).alloc (.cells B 206)).alloc (.cells C 206)).frozen? ⟨w.heap.size,j,none⟩=false) /\
  (∀ j v,B[j]? = some v->(((w.alloc (.cells A 206)).alloc (.cells B 206)).alloc (.cells C 206)).cell? ⟨w.heap.size+1,j,none⟩=some v) /\
  (∀ j v,C[j]? = some v->(((w.alloc (.cells A 206)).alloc (.cells B 206)).alloc (.cells C 206)).cell? ⟨w.heap.size+1+1,j,none⟩=some v) /\ Below w.heap.size w (((w.alloc (.cells A 206)).alloc (.cells B 206)).alloc (.cells C 206)):=by
 have h3:Below w.heap.size w (((w.alloc (.cells A 206)).alloc (.cells B 206)).alloc (.cells C 206)):=(((Below.refl _ _).alloc (Nat.le_refl _) _).alloc (by simp) _).alloc (by simp;omega) _
 have e1:(((w.alloc (.cells A 206)).alloc (.cells B 206)).alloc (.cells C 206)).heap[w.heap.size]? = some (.cells A 206 (0,0)):=by
  rw [Below.heap_alloc _ _ _ (by simp;omega),Below.heap_alloc _ _ _ (by simp)];exact heap_alloc_new w _
 have e2:(((w.alloc (.cells A 206)).alloc (.cells B 206)).alloc (.cells C 206)).heap[w.heap.size+1]? = some (.cells B 206 (0,0)):=by
  rw [Below.heap_alloc _ _ _ (by simp)]
  have:=heap_alloc_new (w.alloc (.cells A 206)) (.cells B 206)
  simpa using this
 have e3:(((w.alloc (.cells A 206)).alloc (.cells B 206)).alloc (.cells C 206)).heap[w.heap.size+1+1]? = some (.cells C 206 (0,0)):=by
  have:=heap_alloc_new ((w.alloc (.cells A 206)).alloc (.cells B 206)) (.cells C 206)
  simpa using this
 exact ⟨fun j v hv => ⟨by rw [cell_of_row _ _ j A 206 (0,0) e1,hv],by simp [World.frozen?,e1]⟩,fun j v hv => by rw [cell_of_row _ _ j B 206 (0,0) e2,hv],fun j v hv => by rw [cell_of_row _ _ j C 206 (0,0) e3,hv],h3⟩
set_option maxRecDepth 20000 in
set_option maxHeartbeats 4000000 in
theorem take_many {w:World} {hb:Nat} {iv:Value} {ps:List Pc} (h:Heap w hb iv ps) (ho:HO ps) (hn:ps.length<=1000000) (m:Nat) (hm:0 < m) (hl:ps.length=m+1) :
  Calls Tryz.prog 188 #[.pointer (some ⟨hb,0,none⟩)] w fun e w' => e = .returned (.tuple #[pagg (ps.getD 0 Pc.zero),.bool true]) /\ ∃ iv' ps',Heap w' hb iv' ps' /\ (ps.getD 0 Pc.zero :: ps').Perm ps /\ HO ps' /\ Only hb iv w w' /\ iv'.ownBlock=iv.ownBlock /\ TakP ps ps':=by
 have HH:=hid h
 have HHO:=hid ho
 obtain ⟨g,cap,cur,e,hbg,hg,hnc,hcm,hcs,ht⟩:=h.at (by omega)
 have c0:=h.cell0
 rw [e,hl] at c0
 have f0:=h.free 0
 obtain ⟨a1,a2,a3,a4⟩:=row_get hg ht (show 0 < ps.length by omega)
 obtain ⟨l1,l2,l3,l4⟩:=row_get hg ht (show m < ps.length by omega)
 obtain ⟨p0,hp0⟩:∃ q,q=ps.getD 0 Pc.zero:=⟨_,rfl⟩
 obtain ⟨pl,hpl⟩:∃ q,q=ps.getD m Pc.zero:=⟨_,rfl⟩
 rw [<- hp0] at a1 a2 ⊢
 rw [<- hpl] at l1 l2
 rw [Nat.zero_mul] at a1 a2 a3 a4
 rw [Nat.zero_add] at a2 a4
 have HP0:=hid hp0
 have HPL:=hid hpl
 have HE:=hid e
 have HL:=hid hl
 have zb:=h.lt
 have zg:g < w.heap.size:=(Array.getElem?_eq_some_iff.1 hg).1
 have hm2:m < 1000000:=by omega
 have hmc:m<=cap:=by omega
 clear h ho hp0 hpl e hg hnc hcm hcs ht hl hn
 have c0':=old3 c0
 have f0':=old3f zb f0
 have a1':=old3 a1
 have a2':=old3 a2
 have a3':=old3f zg a3
 have a4':=old3f zg a4
 have l1':=old3 l1
 have l2':=old3 l2
 have l3':=old3f zg l3
 have l4':=old3f zg l4
 have hbg':hb ≠ g:=by omega
 go_enter Tryz.func188,Tryz.ntmps188
 go_wp2
 have BX:=boxes w #[.int .i64 0,.slice none 0 0] #[.int .i64 0,.slice none 0 0] #[.int .i64 p0.wt,.slice p0.ao p0.sy.length p0.c]
 have k0:=c0' (.cells #[.int .i64 0,.slice none 0 0] 206) (.cells #[.int .i64 0,.slice none 0 0] 206) (.cells #[.int .i64 p0.wt,.slice p0.ao p0.sy.length p0.c] 206)
 have k1:=f0' (.cells #[.int .i64 0,.slice none 0 0] 206) (.cells #[.int .i64 0,.slice none 0 0] 206) (.cells #[.int .i64 p0.wt,.slice p0.ao p0.sy.length p0.c] 206)
 have k2:=a1' (.cells #[.int .i64 0,.slice none 0 0] 206) (.cells #[.int .i64 0,.slice none 0 0] 206) (.cells #[.int .i64 p0.wt,.slice p0.ao p0.sy.length p0.c] 206)
 have k3:=a2' (.cells #[.int .i64 0,.slice none 0 0] 206) (.cells #[.int .i64 0,.slice none 0 0] 206) (.cells #[.int .i64 p0.wt,.slice p0.ao p0.sy.length p0.c] 206)
 have k4:=a3' (.cells #[.int .i64 0,.slice none 0 0] 206) (.cells #[.int .i64 0,.slice none 0 0] 206) (.cells #[.int .i64 p0.wt,.slice p0.ao p0.sy.length p0.c] 206)
 have k5:=a4' (.cells #[.int .i64 0,.slice none 0 0] 206) (.cells #[.int .i64 0,.slice none 0 0] 206) (.cells #[.int .i64 p0.wt,.slice p0.ao p0.sy.length p0.c] 206)
 have k6:=l1' (.cells #[.int .i64 0,.slice none 0 0] 206) (.cells #[.int .i64 0,.slice none 0 0] 206) (.cells #[.int .i64 p0.wt,.slice p0.ao p0.sy.length p0.c] 206)
 have k7:=l2' (.cells #[.int .i64 0,.slice none 0 0] 206) (.cells #[.int .i64 0,.slice none 0 0] 206) (.cells #[.int .i64 p0.wt,.slice p0.ao p0.sy.length p0.c] 206)
 have k8:=l3' (.cells #[.int .i64 0,.slice none 0 0] 206) (.cells #[.int .i64 0,.slice none 0 0] 206) (.cells #[.int .i64 p0.wt,.slice p0.ao p0.sy.length p0.c] 206)
 have k9:=l4' (.cells #[.int .i64 0,.slice none 0 0] 206) (.cells #[.int .i64 0,.slice none 0 0] 206) (.cells #[.int .i64 p0.wt,.slice p0.ao p0.sy.length p0.c] 206)
 obtain ⟨W,hW⟩:∃ W,W=((w.alloc (.cells #[.int .i64 0,.slice none 0 0] 206)).alloc (.cells #[.int .i64 0,.slice none 0 0] 206)).alloc (.cells #[.int .i64 p0.wt,.slice p0.ao p0.sy.length p0.c] 206):=⟨_,rfl⟩
 rw [<- hW] at BX k0 k1 k2 k3 k4 k5 k6 k7 k8 k9 ⊢
 clear hW c0' f0' a1' a2' a3' a4' l1' l2' l3' l4' c0 f0 a1 a2 a3 a4 l1 l2 l3 l4
 obtain ⟨B1,B2,B3,B4⟩:=BX
 have r0:W.cell? ⟨w.heap.size,0,none⟩=some (.int .i64 0):=(B1 0 _ rfl).1
 have r1:W.cell? ⟨w.heap.size,1,none⟩=some (.slice none 0 0):=(B1 1 _ rfl).1
 have s0:=(B1 0 _ rfl).2
 have s1:=(B1 1 _ rfl).2
 have n0:W.cell? ⟨w.heap.size+1,0,none⟩=some (.int .i64 0):=B2 0 _ rfl
 have n1:W.cell? ⟨w.heap.size+1,1,none⟩=some (.slice none 0 0):=B2 1 _ rfl
 have x0:W.cell? ⟨w.heap.size+1+1,0,none⟩=some (.int .i64 p0.wt):=B3 0 _ rfl
 have x1:W.cell? ⟨w.heap.size+1+1,1,none⟩=some (.slice p0.ao p0.sy.length p0.c):=B3 1 _ rfl
 have HB4:=hid B4
 clear B1 B2 B3 B4
 go_region
 go_wp2
 go_region
 go_wp2_with fail
 have TH:=hid (take_heap (pl:=pl) (HH.out.below HB4.out) HE.out HL.out)
 have TP:=hid (take_perm hm HL.out)
 have hdn:Hid (DownInv (((ps.set 0 pl).set m Pc.zero).take m) 0):=by
  obtain ⟨mid,e1,e2⟩:=TP.out.2
  rw [<- HPL.out] at e1
  rw [e1]
  have h2:=ho_take HHO.out m
  have e3:ps.take m=ps.getD 0 Pc.zero :: mid:=by
   have hml:mid.length+1=m:=by
    have:=congrArg List.length e2
    simp [HL.out] at this
    omega
   rw [e2,<- hml]
   simp
  rw [e3] at h2
  exact down_start h2
 have hlq:(((ps.set 0 pl).set m Pc.zero).take m).length<=1000000:=by simp;omega
 refine (sink_any TH.out.1 hlq hdn.out).mono ?_
 rintro e w2 ⟨rfl,ps',h2,hp2,ho2,on2,hsk⟩
 have HSK:=hid hsk
 clear hsk
 have HO2:Hid (Only hb iv W w2):=TH.out.2.trans (only_own on2 (by rw [HE.out];exact own_cut _ _ _ _ _))
 have HR:=hid (show _ /\ _ /\ _ from ⟨h2,hp2,ho2⟩)
 have hob:iv.ownBlock=some g:=by rw [HE.out];rfl
 have q0:iv.ownBlock ≠ some w.heap.size:=by rw [hob];simp;omega
 have q2:iv.ownBlock ≠ some (w.heap.size+1+1):=by rw [hob];simp;omega
 have hzW:w.heap.size < W.heap.size:=World.block_lt_of_cell? W _ r0
 have y0:=only_cell HO2.out (by omega) q0 r0
 have y1:=only_cell HO2.out (by omega) q0 r1
 have y2:=only_free HO2.out (by omega) q0 hzW s0
 have y3:=only_free HO2.out (by omega) q0 hzW s1
 have y4:=only_cell HO2.out (by omega) q2 x0
 have y5:=only_cell HO2.out (by omega) q2 x1
 have Hq0:=hid q0
 have Hob:=hid hob
 clear h2 hp2 ho2 on2 k0 k1 k2 k3 k4 k5 k6 k7 k8 k9 r0 r1 s0 s1 n0 n1 x0 x1 q0 q2 hob
 go_wp2
 refine bodyPost_ret (v:=.tuple #[.agg #[.int .i64 p0.wt,.slice p0.ao p0.sy.length p0.c],.bool true]) (by simp [results,Tryz.results188,go_sem,y0,y1]) rfl ⟨rfl,_,ps',HR.out.1.kept ?_ ?_,?_,HR.out.2.2,?_,?_,?_⟩
 ·rw [Below.heap_setCell _ _ _ _ (by simp;omega),Below.heap_setCell _ _ _ _ (by simp;omega)]
 ·intro k hk
  have hkg:k=g:=by simp [Value.ownBlock] at hk;exact hk.symm
  rw [Below.heap_setCell _ _ _ _ (by simp;omega),Below.heap_setCell _ _ _ _ (by simp;omega)]
 ·have:=TP.out.1
  rw [<- HP0.out,<- HPL.out] at this
  exact (List.Perm.cons _ HR.out.2.1).trans this
 ·have b4:=HB4.out
  have o2:=HO2.out
  have z4:=b4.size
  refine ⟨o2.os.trans b4.os,o2.tape.trans b4.tape,o2.output.trans b4.output,by have:=o2.size;simp [World.setCell];omega,fun k h1 h2 h3 => ?_⟩
  rw [Below.heap_setCell _ _ _ _ (by simp;omega),Below.heap_setCell _ _ _ _ (by simp;omega),o2.block k (by omega) h2 h3,b4.block k h1]
 ·rw [HE.out];exact own_cut _ _ _ _ _
 ·refine .inr ⟨by have:=HL.out;omega,?_⟩
  have e:ps.length - 1=m:=by have:=HL.out;omega
  rw [e,<- HPL.out]
  exact HSK.out
theorem take_heap1 {W:World} {hb g cap:Nat} {iv:Value} {ps:List Pc} {p0:Pc} (h:Heap W hb iv ps) (e:iv = .slice (some ⟨g,0,none⟩) ps.length cap) (hl:ps.length=1) :
  Heap (((((W.setCell ⟨g,0,none⟩ (.int .i64 p0.wt)).setCell ⟨g,1,none⟩ (.slice p0.ao p0.sy.length p0.c)).setCell ⟨g,0,none⟩ (.int .i64 0)).setCell ⟨g,1,none⟩ (.slice none 0 0)).setCell ⟨hb,0,none⟩ (.slice (some ⟨g,0,none⟩) 0 cap)).drew.drew hb (.slice (some ⟨g,0,none⟩) 0 cap) (((ps.set 0 p0).set 0 Pc.zero).take 0) /\
  Only hb iv W (((((W.setCell ⟨g,0,none⟩ (.int .i64 p0.wt)).setCell ⟨g,1,none⟩ (.slice p0.ao p0.sy.length p0.c)).setCell ⟨g,0,none⟩ (.int .i64 0)).setCell ⟨g,1,none⟩ (.slice none 0 0)).setCell ⟨hb,0,none⟩ (.slice (some ⟨g,0,none⟩) 0 cap)).drew.drew:=by
 have hob:iv.ownBlock=some g:=by rw [e];rfl
 have h1:=h.put e 0 p0
 have h2:=h1.put (g:=g) (cap:=cap) (by rw [e];simp) 0 Pc.zero
 have h3:Heap ((((W.setCell ⟨g,0,none⟩ (.int .i64 p0.wt)).setCell ⟨g,1,none⟩ (.slice p0.ao p0.sy.length p0.c)).setCell ⟨g,0,none⟩ (.int .i64 0)).setCell ⟨g,1,none⟩ (.slice none 0 0)) hb (.slice (some ⟨g,0,none⟩) 1 cap) ((ps.set 0 p0).set 0 Pc.zero):=by
  rw [e,hl] at h2
  exact h2
 refine ⟨((Heap.cut (m:=0) h3 (by simp [hl])).below (Below.refl _ _).drew).below (Below.refl _ _).drew,?_⟩
 have o1:=((((Only.refl hb iv W).set hob 0 (.int .i64 p0.wt)).set hob 1 (.slice p0.ao p0.sy.length p0.c)).set hob 0 (.int .i64 0)).set hob 1 (.slice none 0 0)
 have o2:Only hb iv W (((((W.setCell ⟨g,0,none⟩ (.int .i64 p0.wt)).setCell ⟨g,1,none⟩ (.slice p0.ao p0.sy.length p0.c)).setCell ⟨g,0,none⟩ (.int .i64 0)).setCell ⟨g,1,none⟩ (.slice none 0 0)).setCell ⟨hb,0,none⟩ (.slice (some ⟨g,0,none⟩) 0 cap)) :=
  o1.trans ⟨rfl,rfl,rfl,by simp [World.setCell],fun k _ h2 _ => Below.heap_setCell _ _ _ _ h2⟩
 exact (o2.below (Below.refl _ _).drew).below (Below.refl _ _).drew
set_option maxRecDepth 20000 in
set_option maxHeartbeats 4000000 in
theorem take_one {w:World} {hb:Nat} {iv:Value} {ps:List Pc} (h:Heap w hb iv ps) (hl:ps.length=1) :
  Calls Tryz.prog 188 #[.pointer (some ⟨hb,0,none⟩)] w fun e w' => e = .returned (.tuple #[pagg (ps.getD 0 Pc.zero),.bool true]) /\ ∃ iv' ps',Heap w' hb iv' ps' /\ (ps.getD 0 Pc.zero :: ps').Perm ps /\ HO ps' /\ Only hb iv w w' /\ iv'.ownBlock=iv.ownBlock /\ TakP ps ps':=by
 have HH:=hid h
 obtain ⟨g,cap,cur,e,hbg,hg,hnc,hcm,hcs,ht⟩:=h.at (by omega)
 have c0:=h.cell0
 rw [e,hl] at c0
 have f0:=h.free 0
 obtain ⟨a1,a2,a3,a4⟩:=row_get hg ht (show 0 < ps.length by omega)
 obtain ⟨p0,hp0⟩:∃ q,q=ps.getD 0 Pc.zero:=⟨_,rfl⟩
 rw [<- hp0] at a1 a2 ⊢
 rw [Nat.zero_mul] at a1 a2 a3 a4
 rw [Nat.zero_add] at a2 a4
 have HP0:=hid hp0
 have HE:=hid e
 have HL:=hid hl
 have zb:=h.lt
 have zg:g < w.heap.size:=(Array.getElem?_eq_some_iff.1 hg).1
 clear h hp0 e hg hnc hcm hcs ht hl
 have c0':=old3 c0
 have f0':=old3f zb f0
 have a1':=old3 a1
 have a2':=old3 a2
 have a3':=old3f zg a3
 have a4':=old3f zg a4
 have hbg':hb ≠ g:=by omega
 go_enter Tryz.func188,Tryz.ntmps188
 go_wp2
 have BX:=boxes w #[.int .i64 0,.slice none 0 0] #[.int .i64 0,.slice none 0 0] #[.int .i64 p0.wt,.slice p0.ao p0.sy.length p0.c]
 have k0:=c0' (.cells #[.int .i64 0,.slice none 0 0] 206) (.cells #[.int .i64 0,.slice none 0 0] 206) (.cells #[.int .i64 p0.wt,.slice p0.ao p0.sy.length p0.c] 206)
 have k1:=f0' (.cells #[.int .i64 0,.slice none 0 0] 206) (.cells #[.int .i64 0,.slice none 0 0] 206) (.cells #[.int .i64 p0.wt,.slice p0.ao p0.sy.length p0.c] 206)
 have k2:=a1' (.cells #[.int .i64 0,.slice none 0 0] 206) (.cells #[.int .i64 0,.slice none 0 0] 206) (.cells #[.int .i64 p0.wt,.slice p0.ao p0.sy.length p0.c] 206)
 have k3:=a2' (.cells #[.int .i64 0,.slice none 0 0] 206) (.cells #[.int .i64 0,.slice none 0 0] 206) (.cells #[.int .i64 p0.wt,.slice p0.ao p0.sy.length p0.c] 206)
 have k4:=a3' (.cells #[.int .i64 0,.slice none 0 0] 206) (.cells #[.int .i64 0,.slice none 0 0] 206) (.cells #[.int .i64 p0.wt,.slice p0.ao p0.sy.length p0.c] 206)
 have k5:=a4' (.cells #[.int .i64 0,.slice none 0 0] 206) (.cells #[.int .i64 0,.slice none 0 0] 206) (.cells #[.int .i64 p0.wt,.slice p0.ao p0.sy.length p0.c] 206)
 obtain ⟨W,hW⟩:∃ W,W=((w.alloc (.cells #[.int .i64 0,.slice none 0 0] 206)).alloc (.cells #[.int .i64 0,.slice none 0 0] 206)).alloc (.cells #[.int .i64 p0.wt,.slice p0.ao p0.sy.length p0.c] 206):=⟨_,rfl⟩
 rw [<- hW] at BX k0 k1 k2 k3 k4 k5 ⊢
 clear hW c0' f0' a1' a2' a3' a4' c0 f0 a1 a2 a3 a4
 obtain ⟨B1,B2,B3,B4⟩:=BX
 have r0:W.cell? ⟨w.heap.size,0,none⟩=some (.int .i64 0):=(B1 0 _ rfl).1
 have r1:W.cell? ⟨w.heap.size,1,none⟩=some (.slice none 0 0):=(B1 1 _ rfl).1
 have s0:=(B1 0 _ rfl).2
 have s1:=(B1 1 _ rfl).2
 have n0:W.cell? ⟨w.heap.size+1,0,none⟩=some (.int .i64 0):=B2 0 _ rfl
 have n1:W.cell? ⟨w.heap.size+1,1,none⟩=some (.slice none 0 0):=B2 1 _ rfl
 have x0:W.cell? ⟨w.heap.size+1+1,0,none⟩=some (.int .i64 p0.wt):=B3 0 _ rfl
 have x1:W.cell? ⟨w.heap.size+1+1,1,none⟩=some (.slice p0.ao p0.sy.length p0.c):=B3 1 _ rfl
 have HB4:=hid B4
 clear B1 B2 B3 B4
 go_region
 go_wp2
 go_region
 go_wp2_with fail
 have TH:=hid (take_heap1 (p0:=p0) (HH.out.below HB4.out) HE.out HL.out)
 have hdn:Hid (DownInv (((ps.set 0 p0).set 0 Pc.zero).take 0) 0):=by rw [List.take_zero];exact ⟨fun k _ kl => by simp at kl,fun k _ kl => by simp at kl⟩
 have hlq:(((ps.set 0 p0).set 0 Pc.zero).take 0).length<=1000000:=by simp
 refine (sink_any TH.out.1 hlq hdn.out).mono ?_
 rintro e w2 ⟨rfl,ps',h2,hp2,ho2,on2,_⟩
 have HO2:Hid (Only hb iv W w2):=TH.out.2.trans (only_own on2 (by rw [HE.out];exact own_cut _ _ _ _ _))
 have HR:=hid (show _ /\ _ /\ _ from ⟨h2,hp2,ho2⟩)
 have hob:iv.ownBlock=some g:=by rw [HE.out];rfl
 have q0:iv.ownBlock ≠ some w.heap.size:=by rw [hob];simp;omega
 have q2:iv.ownBlock ≠ some (w.heap.size+1+1):=by rw [hob];simp;omega
 have hzW:w.heap.size < W.heap.size:=World.block_lt_of_cell? W _ r0
 have y0:=only_cell HO2.out (by omega) q0 r0
 have y1:=only_cell HO2.out (by omega) q0 r1
 have y2:=only_free HO2.out (by omega) q0 hzW s0
 have y3:=only_free HO2.out (by omega) q0 hzW s1
 have y4:=only_cell HO2.out (by omega) q2 x0
 have y5:=only_cell HO2.out (by omega) q2 x1
 have Hq0:=hid q0
 have Hob:=hid hob
 clear h2 hp2 ho2 on2 k0 k1 k2 k3 k4 k5 r0 r1 s0 s1 n0 n1 x0 x1 q0 q2 hob
 go_wp2
 refine bodyPost_ret (v:=.tuple #[.agg #[.int .i64 p0.wt,.slice p0.ao p0.sy.length p0.c],.bool true]) (by simp [results,Tryz.results188,go_sem,y0,y1]) rfl ⟨rfl,_,ps',HR.out.1.kept ?_ ?_,?_,HR.out.2.2,?_,?_,?_⟩
 ·rw [Below.heap_setCell _ _ _ _ (by simp;omega),Below.heap_setCell _ _ _ _ (by simp;omega)]
 ·intro k hk
  have hkg:k=g:=by simp [Value.ownBlock] at hk;exact hk.symm
  rw [Below.heap_setCell _ _ _ _ (by simp;omega),Below.heap_setCell _ _ _ _ (by simp;omega)]
 ·have e1:ps'=[]:=by have:=HR.out.2.1.length_eq;simpa using this
  have e2:ps=[p0]:=by
   have h1:=HL.out
   have h2:=HP0.out
   match ps,h1 with
   | [q],_ => rw [h2];rfl
  rw [e1,e2]
 ·have b4:=HB4.out
  have o2:=HO2.out
  have z4:=b4.size
  refine ⟨o2.os.trans b4.os,o2.tape.trans b4.tape,o2.output.trans b4.output,by have:=o2.size;simp [World.setCell];omega,fun k h1 h2 h3 => ?_⟩
  rw [Below.heap_setCell _ _ _ _ (by simp;omega),Below.heap_setCell _ _ _ _ (by simp;omega),o2.block k (by omega) h2 h3,b4.block k h1]
 ·rw [HE.out];exact own_cut _ _ _ _ _
 ·exact .inl ⟨HL.out,by have:=HR.out.2.1.length_eq;simpa using this⟩
end Go.Proofs.YthdmjmnkhlpnnabGreatDoor
namespace Go.Proofs.YthdmjmnkhlpnnabGreatDoor
open Go.RowKit
set_option maxHeartbeats 800000 in
theorem grow2_any (k:Nat) (h0:0 < k) (hk:k<=100000000) (w:World) :
  Calls Tryz.prog 184 #[.slice none 0 0,.int .i64 k] w fun e w' => ∃ g cap,e = .returned (.slice (some ⟨g,0,none⟩) 0 cap) /\ w'.ownsRow w.heap.size 3 1 (.slice (some ⟨g,0,none⟩) 0 cap) 0 [] /\ k<=cap /\ Below w.heap.size w w':=by
 have hb8:Tryz.t3.bytes=8:=by kernel_rfl
 have hnc:Builtin.nextslicecap k 0=k:=nextslicecap_zero h0
 go_enter Tryz.func184,Tryz.ntmps184
 go_wp2
 go_ret
 have hge:=grownCap_ge w k 0 3
 have hle:=grownCap_le_maxLen w k 0 3 (by unfold maxLen;omega)
 refine ⟨w.heap.size,grownCap w k 0 3,rfl,?_,hge,?_⟩
 ·refine ⟨rfl,.inr ⟨w.heap.size,grownCap w k 0 3,_,rfl,Nat.le_refl _,heap_alloc_new w.drew _,by omega,hle,?_,by simp⟩⟩
  simp [size_zeroCells]
  unfold grownCap at hge ⊢
  omega
 ·exact ((Below.refl _ _).drew).alloc (Nat.le_refl _) _
set_option maxRecDepth 20000 in
set_option maxHeartbeats 2000000 in
theorem concat_any {w:World} {b:Nat} (a1 a2:Addr) (c1 c2:Nat) (xs ys:List Int) (h1:Seg w (some a1) xs) (h2:Seg w (some a2) ys) (hx:0 < xs.length) (hxl:xs.length<=10000000) (hyl:ys.length<=10000000)
  (k0:w.cell? ⟨b,0,none⟩=some (.slice (some a1) xs.length c1)) (k1:w.cell? ⟨b,1,none⟩=some (.slice (some a2) ys.length c2)) :
  Calls Tryz.prog 159 #[.slice (some ⟨b,0,none⟩) 2 2] w fun e w' => ∃ g cap,e = .returned (.slice (some ⟨g,0,none⟩) (xs.length+ys.length) cap) /\ w.heap.size<=g /\ w'.ownsRow w.heap.size 3 1 (.slice (some ⟨g,0,none⟩) (xs.length+ys.length) cap) (xs.length+ys.length) ((xs ++ ys).map (Value.int .i64)) /\ Below w.heap.size w w':=by
 obtain ⟨i0,hi,hz0,hz1,hz2⟩:=info_parts info3
 have H1:=hid h1
 have H2:=hid h2
 clear h1 h2
 go_enter Tryz.func159,Tryz.ntmps159
 go_wp2
 refine wp_loop_rounds 3 ?_
 rw [rounds_succ]
 go_wp2_with fail
 rw [rounds_succ]
 go_wp2_with fail
 rw [rounds_succ]
 go_wp2_with fail
 have hk:(xs.length:Int)+(ys.length:Int)=((xs.length+ys.length:Nat):Int):=by omega
 rw [hk]
 clear hk
 refine (grow2_any (xs.length+ys.length) (by omega) (by omega) _).mono ?_
 rintro e w1 ⟨g,cap,rfl,hown,hcap,hb1⟩
 have HO:=hid hown
 have Hb1:=hid hb1
 have hbl:b < w.heap.size:=World.block_lt_of_cell? w _ k0
 have k0':w1.cell? ⟨b,0,none⟩=some (.slice (some a1) xs.length c1):=(hb1.cell (p:=⟨b,0,none⟩) hbl).trans k0
 have k1':w1.cell? ⟨b,1,none⟩=some (.slice (some a2) ys.length c2):=(hb1.cell (p:=⟨b,1,none⟩) hbl).trans k1
 have hg0:=(hown.lt g rfl).1
 clear hown hb1 k0 k1
 go_wp2
 refine wp_loop_rounds 3 ?_
 rw [rounds_succ]
 go_wp2_with (at_builtin;refine wpList_append_fits _ rfl (.tmp 31) (.tmp 32) 23 rfl w.heap.size 3 i0 1 Tryz.underlying23 hi hz1 g 0 cap [] rfl HO.out a1 xs.length c1 (xs.map (Value.int .i64)) rfl ?p1 (seg_news (H1.out.below Hb1.out)) (nums_oneCell xs) ?p2 ?_)
 case p1 => simp
 case p2 => omega
 intro w2 hown2 hgrow2
 have hb2:Below w.heap.size w w2:=Hb1.out.grown hgrow2 Hb1.out.size (fun k hk => by injection hk with hk;omega)
 have Hb2:=hid hb2
 have k1'':w2.cell? ⟨b,1,none⟩=some (.slice (some a2) ys.length c2):=(hb2.cell (p:=⟨b,1,none⟩) hbl).trans ((Hb1.out.cell (p:=⟨b,1,none⟩) hbl).symm.trans k1')
 have HO2:Hid (w2.ownsRow w.heap.size 3 1 (.slice (some ⟨g,0,none⟩) xs.length cap) xs.length (xs.map (Value.int .i64))):=by
  exact hown2
 clear hown2 hgrow2 hb2 k0' k1'
 go_wp2_with fail
 rw [rounds_succ]
 go_wp2_with (at_builtin;refine wpList_append_fits _ rfl (.tmp 31) (.tmp 32) 23 rfl w.heap.size 3 i0 1 Tryz.underlying23 hi hz1 g xs.length cap (xs.map (Value.int .i64)) rfl HO2.out a2 ys.length c2 (ys.map (Value.int .i64)) rfl ?p3 (seg_news (H2.out.below Hb2.out)) (nums_oneCell ys) ?p4 ?_)
 case p3 => simp
 case p4 => omega
 intro w3 hown3 hgrow3
 have Hb3:Hid (Below w.heap.size w w3):=Hb2.out.grown hgrow3 Hb2.out.size (fun k hk => by injection hk with hk;omega)
 have HO3:Hid (w3.ownsRow w.heap.size 3 1 (.slice (some ⟨g,0,none⟩) (xs.length+ys.length) cap) (xs.length+ys.length) ((xs ++ ys).map (Value.int .i64))):=by
  rw [List.map_append];exact hown3
 clear hown3 hgrow3 k1''
 go_wp2_with fail
 rw [rounds_succ]
 go_wp2
 go_ret
 exact ⟨g,cap,rfl,hg0,HO3.out,Hb3.out⟩
end Go.Proofs.YthdmjmnkhlpnnabGreatDoor
namespace Go.Proofs.YthdmjmnkhlpnnabGreatDoor
open Go.RowKit
def PcOk (w:World) (p:Pc):Prop:=∃ g cur,p.ao=some ⟨g,0,none⟩ /\ w.heap[g]? = some (.cells cur 3 (0,0)) /\ (∀ j,j < p.sy.length->cur[j]? = some (.int .i64 (p.sy.getD j 0))) /\ 0 < p.sy.length
theorem PcOk.kept {w w':World} {p:Pc} (h:PcOk w p) (hk:∀ (g:Nat) (cur:Array Value),w.heap[g]? = some (.cells cur 3 (0,0))->w'.heap[g]? = w.heap[g]?):PcOk w' p:=by
 obtain ⟨g,cur,e,hg,hc,h0⟩:=h
 exact ⟨g,cur,e,by rw [hk g cur hg];exact hg,hc,h0⟩
theorem PcOk.below {w w':World} {p:Pc} (h:PcOk w p) (hb:Below w.heap.size w w'):PcOk w' p :=
 h.kept fun g _ hg => hb.block g (Array.getElem?_eq_some_iff.1 hg).1
theorem PcOk.grown {w w':World} {p:Pc} (h:PcOk w p) {base n:Nat} {v:Value} {xs:List Value} (hown:w.ownsRow base 206 2 v n xs) (hg:w.grownBy w' v.ownBlock):PcOk w' p :=
 h.kept fun g cur hh => hg.block g (Array.getElem?_eq_some_iff.1 hh).1 (fun e => owns_type hown hh (by decide) e.symm)
theorem PcOk.only {w w':World} {p:Pc} (h:PcOk w p) {hb:Nat} {iv:Value} {ps:List Pc} (hh:Heap w hb iv ps) (ho:Only hb iv w w'):PcOk w' p :=
 h.kept fun g cur hg => ho.block g (Array.getElem?_eq_some_iff.1 hg).1 (fun e => by subst e;rw [hh.blk] at hg;injection hg with hg;injection hg with _ h2;cases h2) (owns_type hh.own hg (by decide))
theorem PcOk.seg {w:World} {p:Pc} (h:PcOk w p):∃ g,p.ao=some ⟨g,0,none⟩ /\ Seg w (some ⟨g,0,none⟩) p.sy /\ 0 < p.sy.length:=by
 obtain ⟨g,cur,e,hg,hc,h0⟩:=h
 exact ⟨g,e,fun _ => ⟨g,0,rfl,fun j hj => by rw [Nat.zero_add,cell_of_row w g j cur 3 (0,0) hg];exact hc j hj⟩,h0⟩
theorem PcOk.own {w:World} {base n cap g:Nat} {sy:List Int} {wt:Int} (h:w.ownsRow base 3 1 (.slice (some ⟨g,0,none⟩) n cap) n (sy.map (Value.int .i64))) (h0:0 < sy.length):PcOk w ⟨some ⟨g,0,none⟩,cap,wt,sy⟩:=by
 have hl:sy.length=n:=by have:=h.1;simpa using this
 rcases h.2 with ⟨e,_⟩ | ⟨g',cap',cur,e,hb,hg,hnc,hcm,hcs,ht⟩
 ·cases e
 ·injection e with e1 e2 e3
  injection e1 with e1
  injection e1 with e1
  subst e1
  refine ⟨g,cur,rfl,hg,fun j hj => ?_,h0⟩
  have h1:(cur.toList.take (n*1))[j]? = some (Value.int .i64 (sy.getD j 0)):=by rw [ht];simp [hj]
  rw [List.getElem?_take] at h1
  split at h1
  ·simpa using h1
  ·cases h1
def pabs (p:Pc):Int × List Int:=(p.wt,p.sy)
def singAt:Nat->List Int->List (Int × List Int)
 | _,[] => []
 | i,c :: r => if 0 < c then (c,[(i:Int)]) :: singAt (i+1) r else singAt (i+1) r
def sing (cs:List Int):List (Int × List Int):=singAt 0 cs
theorem singAt_snoc (i:Nat) (cs:List Int) (c:Int):singAt i (cs ++ [c])=singAt i cs ++ if 0 < c then [(c,[((i+cs.length:Nat):Int)])] else []:=by
 induction cs generalizing i with
 | nil => simp [singAt]
 | cons d cs ih =>
  simp only [List.cons_append,singAt,ih (i+1)]
  have e:i+1+cs.length=i+(d :: cs).length:=by simp;omega
  rw [e]
  split <;> simp
theorem sing_take_succ (cs:List Int) (k:Nat) (h:k < cs.length):sing (cs.take (k+1))=sing (cs.take k) ++ if 0 < cs.getD k 0 then [(cs.getD k 0,[(k:Int)])] else []:=by
 unfold sing
 rw [take_snocI cs k h,singAt_snoc]
 have e:0+(cs.take k).length=k:=by simp;omega
 rw [e]
theorem sing_len (i:Nat) (cs:List Int):(singAt i cs).length<=cs.length:=by
 induction cs generalizing i with
 | nil => simp [singAt]
 | cons d cs ih =>
  have:=ih (i+1)
  simp only [singAt]
  split <;> simp <;> omega
theorem step_single {w wr w1:World} {v v':Value} {S:List Pc} {k:Nat} {cs:List Int} {c:Int} {A:Obj} (hc:0 < c) (hck:cs.getD k 0=c) (hk:k < cs.length) (hown:wr.ownsRow w.heap.size 206 2 v S.length (flat S)) (hB:Below w.heap.size w wr) (hS:S.map pabs=sing (cs.take k)) (hP:∀ p ∈ S,PcOk wr p)
  (hown':w1.ownsRow w.heap.size 206 2 v' (S.length+1) (flat S ++ [.int .i64 c,.slice (some ⟨wr.heap.size,0,none⟩) 1 1])) (hg:((wr.alloc (.cells #[.int .i64 (k:Int)] 3)).alloc A).grownBy w1 v.ownBlock) :
  ∃ S',w1.ownsRow w.heap.size 206 2 v' S'.length (flat S') /\ Below w.heap.size w w1 /\ S'.map pabs=sing (cs.take (k+1)) /\ ∀ p ∈ S',PcOk w1 p:=by
 have hsz:=hB.size
 refine ⟨S ++ [⟨some ⟨wr.heap.size,0,none⟩,1,c,[(k:Int)]⟩],?_,?_,?_,?_⟩
 ·rw [List.length_append,flat_append];exact hown'
 ·exact ((hB.alloc hsz _).alloc (by simp;omega) A).grown hg (by simp;omega) (fun j hj => (hown.lt j hj).1)
 ·rw [List.map_append,hS,sing_take_succ cs k hk,hck,if_pos hc];rfl
 ·have hg':∀ p,PcOk ((wr.alloc (.cells #[.int .i64 (k:Int)] 3)).alloc A) p->PcOk w1 p:=fun p hp => hp.grown ((hown.alloc _).alloc _) hg
  intro p hp
  rcases List.mem_append.1 hp with hp | hp
  ·exact hg' p ((hP p hp).below (((Below.refl _ _).alloc (Nat.le_refl _) _).alloc (by simp) _))
  ·simp at hp
   subst hp
   refine hg' _ ⟨wr.heap.size,#[.int .i64 (k:Int)],rfl,?_,fun j hj => ?_,by simp⟩
   ·rw [Below.heap_alloc _ _ _ (by simp)];exact heap_alloc_new wr _
   ·have:j=0:=by simpa using hj
    subst this;rfl
set_option maxRecDepth 20000 in
set_option maxHeartbeats 2000000 in
theorem singles_any (ao:Option Addr) (c:Nat) (cs:List Int) (w:World) (hs:Seg w ao cs) (hm:cs.length<=320) :
  Calls Tryz.prog 149 #[.slice ao cs.length c] w fun e w' => ∃ v S,e = .returned v /\ w'.ownsRow w.heap.size 206 2 v S.length (flat S) /\ Below w.heap.size w w' /\ S.map pabs=sing cs /\ ∀ p ∈ S,PcOk w' p:=by
 obtain ⟨i0,hi0,hz0,hz1,hz2⟩:=info_parts info58
 go_enter Tryz.func149,Tryz.ntmps149
 go_wp2
 go_loopw [3,8] (fun v i wr => ∃ (k:Nat) (S:List Pc),k<=cs.length /\ i = .int .i64 k /\ S.length<=k /\ Hid (wr.ownsRow w.heap.size 206 2 v S.length (flat S) /\ Below w.heap.size w wr /\ S.map pabs=sing (cs.take k) /\ ∀ p ∈ S,PcOk wr p)) (fun _ i _ => cs.length - (intOf i).toNat)
 case atStart => exact ⟨0,[],by omega,rfl,by simp,World.ownsRow_nil _ _ _ _,Below.refl _ _,rfl,fun p hp => by cases hp⟩
 case round =>
  obtain ⟨k,S,hk,rfl,hSl,HS⟩:=hrel
  by_cases hlt:k < cs.length
  ·obtain ⟨b,off,rfl,hc⟩:=hs (by omega)
   obtain ⟨z,hz⟩:∃ z,z=cs.getD k 0:=⟨_,rfl⟩
   have hcw:w.cell? ⟨b,off+k,none⟩=some (.int .i64 z):=by rw [hz];exact hc k hlt
   have hbl:b < w.heap.size:=World.block_lt_of_cell? w _ hcw
   have hcell:wr.cell? ⟨b,off+k,none⟩=some (.int .i64 z):=(HS.out.2.1.cell (p:=⟨b,off+k,none⟩) hbl).trans hcw
   have HZ:=hid hz
   have hsz:=HS.out.2.1.size
   clear hz hc hs hcw
   by_cases hp:0 < z
   ·go_wp2_with (at_builtin;refine wpList_append_track _ rfl (.tmp 15) (.tmp 20) 202 rfl w.heap.size 206 i0 (.agg #[.int .i64 0,.slice none 0 0]) 2 32 Tryz.underlying202 hi0 hz0 hz1 hz2 rfl (by decide) _ _ _ rfl ((HS.out.1.alloc _).alloc _) ⟨wr.heap.size+1,0,none⟩ 1 1 [.int .i64 z,.slice (some ⟨wr.heap.size,0,none⟩) 1 1] rfl rfl ?a1 ?a2 ?a3 ?a4 ?a5 ?_)
    case a1 => have:=cells_new (wr.alloc (.cells #[.int .i64 (k:Int)] 3)) #[.int .i64 z,.slice (some ⟨wr.heap.size,0,none⟩) 1 1] 206;simpa using this
    case a2 => intro u hu;simp at hu;rcases hu with rfl | rfl <;> rfl
    case a3 => unfold maxLen;omega
    case a4 => omega
    case a5 => simp;omega
    intro v' w1 hown' hgrow htr
    have hl1:=hown'.1
    obtain ⟨va,vc,rfl,_⟩:=owns_shape hown'
    have R:=hid (step_single (w:=w) (cs:=cs) hp HZ.out.symm hlt HS.out.1 HS.out.2.1 HS.out.2.2.1 HS.out.2.2.2 (by exact hown') hgrow)
    clear hown' hgrow htr hl1
    go_wp2
    go_roundw
    case rel =>
     obtain ⟨S',r1,r2,r3,r4⟩:=R.out
     have hl:S'.length=S.length+1:=by
      have e1:=congrArg List.length r3
      have e2:=congrArg List.length HS.out.2.2.1
      rw [sing_take_succ cs k hlt,<- HZ.out,if_pos hp] at e1
      simp at e1 e2
      omega
     exact ⟨k+1,S',by omega,by go_num,by omega,by rw [hl] at r1 ⊢;exact r1,r2,r3,r4⟩
    case measure => simp [intOf];omega
   ·go_wp2
    go_roundw
    case rel =>
     refine ⟨k+1,S,by omega,by go_num,by omega,HS.out.1,HS.out.2.1,?_,HS.out.2.2.2⟩
     rw [sing_take_succ cs k hlt,<- HZ.out,if_neg hp,List.append_nil]
     exact HS.out.2.2.1
    case measure => simp [intOf];omega
  ·have e1:cs.take k=cs:=List.take_of_length_le (by omega)
   have HE:=hid e1
   clear e1
   go_wp2
   go_ret
   have h3:=HS.out.2.2.1
   rw [HE.out] at h3
   exact ⟨_,S,rfl,HS.out.1,HS.out.2.1,h3,HS.out.2.2.2⟩
end Go.Proofs.YthdmjmnkhlpnnabGreatDoor
namespace Go.Proofs.YthdmjmnkhlpnnabGreatDoor
open Go.RowKit
def Pars (w:World) (v:Value) (ps:List Pc):Prop :=
 ∃ ao c,v = .slice ao ps.length c /\ ps.length<=c /\ (0 < ps.length -> ∃ g cur,ao=some ⟨g,0,none⟩ /\ w.heap[g]? = some (.cells cur 206 (0,0)) /\ cur.toList.take (ps.length*2)=flat ps)
theorem Pars.own {w:World} {base:Nat} {v:Value} {ps:List Pc} (h:w.ownsRow base 206 2 v ps.length (flat ps)):Pars w v ps:=by
 rcases h.2 with ⟨e,h0⟩ | ⟨g,cap,cur,e,hb,hg,hnc,hcm,hcs,ht⟩
 ·exact ⟨none,0,by rw [e,h0],by omega,fun h => by omega⟩
 ·exact ⟨some ⟨g,0,none⟩,cap,e,hnc,fun _ => ⟨g,cur,rfl,hg,ht⟩⟩
theorem Pars.below {w w':World} {v:Value} {ps:List Pc} (h:Pars w v ps) (hb:Below w.heap.size w w'):Pars w' v ps:=by
 obtain ⟨ao,c,e,hc,h⟩:=h
 refine ⟨ao,c,e,hc,fun h0 => ?_⟩
 obtain ⟨g,cur,e1,hg,ht⟩:=h h0
 exact ⟨g,cur,e1,by rw [hb.block g (Array.getElem?_eq_some_iff.1 hg).1];exact hg,ht⟩
theorem take_pc (ps:List Pc) (k:Nat) (h:k < ps.length):ps.take (k+1)=ps.take k ++ [ps.getD k Pc.zero]:=by
 rw [List.take_succ_eq_append_getElem h];simp [List.getD,h]
theorem perm_put {ps rs rs':List Pc} {k:Nat} (h:k < ps.length) {qs:List Pc} (h1:rs.Perm (qs ++ ps.take k)) (h2:rs'.Perm (ps.getD k Pc.zero :: rs)):rs'.Perm (qs ++ ps.take (k+1)):=by
 rw [take_pc ps k h,<- List.append_assoc]
 exact (h2.trans (List.Perm.cons _ h1)).trans (List.perm_append_comm (l₁:=[ps.getD k Pc.zero]))
theorem puts_put {ps rs rs' qs:List Pc} {k:Nat} (h:k < ps.length) (h1:PutsP [] (qs ++ ps.take k) rs) (h2:RiseP (rs ++ [ps.getD k Pc.zero]) rs.length rs'):PutsP [] (qs ++ ps.take (k+1)) rs':=by
 rw [take_pc ps k h,<- List.append_assoc]
 exact h1.snoc _ _ h2
set_option maxRecDepth 20000 in
set_option maxHeartbeats 2000000 in
theorem row_any {w:World} {v1 v2:Value} {ps qs:List Pc} (h1:Pars w v1 ps) (h2:Pars w v2 qs) (hp:ps.length<=10000) (hq:qs.length<=10000) :
  Calls Tryz.prog 180 #[v1,v2] w fun e w' => ∃ iv rs,e = .returned (.pointer (some ⟨w.heap.size,0,none⟩)) /\ Heap w' w.heap.size iv rs /\ rs.Perm (ps ++ qs) /\ HO rs /\ Below w.heap.size w w' /\ PutsP [] (ps ++ qs) rs:=by
 obtain ⟨ao1,c1,rfl,_,h1⟩:=h1
 obtain ⟨ao2,c2,rfl,_,h2⟩:=h2
 have H1:=hid h1
 have H2:=hid h2
 clear h1 h2
 go_enter Tryz.func180,Tryz.ntmps180
 go_wp2_with (go_at_call 189;refine (heapnew_any _).mono ?_;rintro e w1 ⟨rfl,hh,hb⟩;have HH:=hid hh;have HB:=hid hb;clear hh hb)
 go_loopw [13] (fun i wr => ∃ (k:Nat) (iv:Value) (rs:List Pc),k<=ps.length /\ i = .int .i64 k /\ Hid (Heap wr w.heap.size iv rs /\ rs.Perm ([] ++ ps.take k) /\ HO rs /\ Below w.heap.size w wr /\ PutsP [] ([] ++ ps.take k) rs)) (fun i _ => ps.length - (intOf i).toNat)
 case atStart => exact ⟨0,_,[],by omega,rfl,HH.out,List.Perm.refl _,fun k _ kl => by simp at kl,HB.out,rfl⟩
 case round =>
  clear HH HB
  obtain ⟨k,iv,rs,hk,rfl,HS⟩:=hrel
  by_cases hlt:k < ps.length
  ·obtain ⟨g,cur,rfl,hg,ht⟩:=H1.out (by omega)
   obtain ⟨x1,x2,_,_⟩:=row_get hg ht hlt
   have hgl:g < w.heap.size:=(Array.getElem?_eq_some_iff.1 hg).1
   have y1:=(HS.out.2.2.2.1.cell (p:=⟨g,k*2,none⟩) hgl).trans x1
   have y2:=(HS.out.2.2.2.1.cell (p:=⟨g,k*2+1,none⟩) hgl).trans x2
   have hlr:rs.length<=10000:=by have:=HS.out.2.1.length_eq;simp at this;omega
   obtain ⟨p,hpe⟩:∃ p,p=ps.getD k Pc.zero:=⟨_,rfl⟩
   rw [<- hpe] at y1 y2
   have HP:=hid hpe
   clear hpe x1 x2 hg ht
   go_wp2_with (go_at_call 191;refine (put_any (HS.out.1.below ((Below.refl _ _).alloc (Nat.le_refl _) _)) HS.out.2.2.1 (by omega) p).mono ?_;rintro e w2 ⟨rfl,iv',rs',hh2,hp2,ho2,hb2,hri2⟩;have HR:=hid (show _ /\ _ /\ _ /\ _ /\ _ from ⟨hh2,hp2,ho2,hb2,hri2⟩);clear hh2 hp2 ho2 hb2 hri2)
   go_roundw
   case rel =>
    refine ⟨k+1,iv',rs',by omega,by go_num,HR.out.1,?_,HR.out.2.2.1,?_,?_⟩
    ·exact perm_put hlt HS.out.2.1 (by rw [<- HP.out];exact HR.out.2.1)
    ·exact (HS.out.2.2.2.1.alloc HS.out.2.2.2.1.size _).trans HR.out.2.2.2.1
    ·exact puts_put hlt HS.out.2.2.2.2 (by rw [<- HP.out];exact HR.out.2.2.2.2)
   case measure => simp [intOf];omega
  ·have HS2:Hid (Heap wr w.heap.size iv rs /\ rs.Perm ps /\ HO rs /\ Below w.heap.size w wr /\ PutsP [] ps rs):=by
    have h:=HS.out
    rw [List.take_of_length_le (by omega)] at h
    exact h
   clear HS
   go_wp2
   go_loopw [23] (fun i wr => ∃ (k:Nat) (iv:Value) (rs:List Pc),k<=qs.length /\ i = .int .i64 k /\ Hid (Heap wr w.heap.size iv rs /\ rs.Perm (ps ++ qs.take k) /\ HO rs /\ Below w.heap.size w wr /\ PutsP [] (ps ++ qs.take k) rs)) (fun i _ => qs.length - (intOf i).toNat)
   case atStart => exact ⟨0,_,rs,by omega,rfl,HS2.out.1,by simpa using HS2.out.2.1,HS2.out.2.2.1,HS2.out.2.2.2.1,by simpa using HS2.out.2.2.2.2⟩
   case round =>
    clear HS2
    obtain ⟨k,iv,rs,hk,rfl,HS⟩:=hrel
    by_cases hlt:k < qs.length
    ·obtain ⟨g,cur,rfl,hg,ht⟩:=H2.out (by omega)
     obtain ⟨x1,x2,_,_⟩:=row_get hg ht hlt
     have hgl:g < w.heap.size:=(Array.getElem?_eq_some_iff.1 hg).1
     have y1:=(HS.out.2.2.2.1.cell (p:=⟨g,k*2,none⟩) hgl).trans x1
     have y2:=(HS.out.2.2.2.1.cell (p:=⟨g,k*2+1,none⟩) hgl).trans x2
     have hlr:rs.length<=20000:=by have:=HS.out.2.1.length_eq;simp at this;omega
     obtain ⟨p,hpe⟩:∃ p,p=qs.getD k Pc.zero:=⟨_,rfl⟩
     rw [<- hpe] at y1 y2
     have HP:=hid hpe
     clear hpe x1 x2 hg ht
     go_wp2_with (go_at_call 191;refine (put_any (HS.out.1.below ((Below.refl _ _).alloc (Nat.le_refl _) _)) HS.out.2.2.1 (by omega) p).mono ?_;rintro e w2 ⟨rfl,iv',rs',hh2,hp2,ho2,hb2,hri2⟩;have HR:=hid (show _ /\ _ /\ _ /\ _ /\ _ from ⟨hh2,hp2,ho2,hb2,hri2⟩);clear hh2 hp2 ho2 hb2 hri2)
     go_roundw
     case rel =>
      refine ⟨k+1,iv',rs',by omega,by go_num,HR.out.1,?_,HR.out.2.2.1,?_,?_⟩
      ·exact perm_put hlt HS.out.2.1 (by rw [<- HP.out];exact HR.out.2.1)
      ·exact (HS.out.2.2.2.1.alloc HS.out.2.2.2.1.size _).trans HR.out.2.2.2.1
      ·exact puts_put hlt HS.out.2.2.2.2 (by rw [<- HP.out];exact HR.out.2.2.2.2)
     case measure => simp [intOf];omega
    ·have HS3:Hid (Heap wr w.heap.size iv rs /\ rs.Perm (ps ++ qs) /\ HO rs /\ Below w.heap.size w wr /\ PutsP [] (ps ++ qs) rs):=by
      have h:=HS.out
      rw [List.take_of_length_le (l:=qs) (by omega)] at h
      exact h
     go_wp2
     go_ret
     exact ⟨iv,rs,rfl,HS3.out⟩
end Go.Proofs.YthdmjmnkhlpnnabGreatDoor
namespace Go.Proofs.YthdmjmnkhlpnnabGreatDoor
open Go.RowKit
attribute [local go_sem ↓] Go.wp_at_zero Go.wp_at_succ
def Took (ps ps':List Pc) (p:Pc) (ok:Bool):Prop:=(ok=false /\ ps=[] /\ ps'=[]) ∨ (ok=true /\ (p :: ps').Perm ps /\ (∀ q ∈ ps',p.wt<=q.wt) /\ p=ps.getD 0 Pc.zero /\ TakP ps ps')
theorem heaptake_any {w:World} {hb:Nat} {iv:Value} {ps:List Pc} (h:Heap w hb iv ps) (ho:HO ps) (hn:ps.length<=1000000) :
  Calls Tryz.prog 188 #[.pointer (some ⟨hb,0,none⟩)] w fun e w' => ∃ (p:Pc) (ok:Bool) (iv':Value) (ps':List Pc),e = .returned (.tuple #[.agg #[.int .i64 p.wt,.slice p.ao p.sy.length p.c],.bool ok]) /\ Heap w' hb iv' ps' /\ HO ps' /\ Only hb iv w w' /\ iv'.ownBlock=iv.ownBlock /\
   Took ps ps' p ok:=by
 have hmin:∀ q ∈ ps,(ps.getD 0 Pc.zero).wt<=q.wt:=fun q hq => by
  obtain ⟨k,hk,e⟩:=List.getElem_of_mem hq
  have:=ho_min ho k hk
  unfold wtAt at this
  simpa [hk,e] using this
 cases hps:ps with
 | nil =>
  subst hps
  refine (take_none h).mono ?_
  rintro e w' ⟨rfl,h',hb'⟩
  exact ⟨Pc.zero,false,iv,[],rfl,h',fun k _ kl => by simp at kl,(Only.refl _ _ _).below hb',rfl,.inl ⟨rfl,rfl,rfl⟩⟩
 | cons p0 rest =>
  rw [<- hps]
  by_cases h1:ps.length=1
  ·refine (take_one h h1).mono ?_
   rintro e w' ⟨rfl,iv',ps',h',hp,ho',on,ow,tk⟩
   exact ⟨ps.getD 0 Pc.zero,true,iv',ps',rfl,h',ho',on,ow,.inr ⟨rfl,hp,fun q hq => hmin q (hp.subset (List.mem_cons_of_mem _ hq)),rfl,tk⟩⟩
  ·have hl:ps.length=(ps.length - 1)+1:=by rw [hps];simp
   refine (take_many h ho hn (ps.length - 1) (by omega) hl).mono ?_
   rintro e w' ⟨rfl,iv',ps',h',hp,ho',on,ow,tk⟩
   exact ⟨ps.getD 0 Pc.zero,true,iv',ps',rfl,h',ho',on,ow,.inr ⟨rfl,hp,fun q hq => hmin q (hp.subset (List.mem_cons_of_mem _ hq)),rfl,tk⟩⟩
def pairsOf:List (Int × List Int)->List (Int × List Int)
 | a :: b :: r => (a.1+b.1,a.2 ++ b.2) :: pairsOf r
 | _ => []
theorem pairsOf_snoc (l:List (Int × List Int)) (h:l.length % 2=0) (a b:Int × List Int):pairsOf (l ++ [a,b])=pairsOf l ++ [(a.1+b.1,a.2 ++ b.2)]:=by
 match l,h with
 | [],_ => rfl
 | [_],h => simp at h
 | x :: y :: r,h =>
  have ih:=pairsOf_snoc r (by simp at h;omega) a b
  simp only [List.cons_append,pairsOf,ih]
theorem pairsOf_one (l:List (Int × List Int)) (h:l.length % 2=0) (a:Int × List Int):pairsOf (l ++ [a])=pairsOf l:=by
 match l,h with
 | [],_ => rfl
 | [_],h => simp at h
 | x :: y :: r,h =>
  have ih:=pairsOf_one r (by simp at h;omega) a
  simp only [List.cons_append,pairsOf,ih]
theorem pairsOf_le:∀ l:List (Int × List Int),(pairsOf l).length<=l.length
 | [] => by simp [pairsOf]
 | [_] => by simp [pairsOf]
 | _ :: _ :: r => by have:=pairsOf_le r;simp [pairsOf];omega
def Srt (l:List Pc):Prop:=l.Pairwise fun a b => a.wt<=b.wt
structure PairInv (w wr:World) (hb:Nat) (iv iv':Value) (ps rs L Q:List Pc) (v:Value):Prop where
 heap:Heap wr hb iv' rs
 same:iv'.ownBlock=iv.ownBlock
 ho:HO rs
 perm:(L ++ rs).Perm ps
 srt:Srt L
 le:∀ a ∈ L,∀ b ∈ rs,a.wt<=b.wt
 dr:DrP ps L rs
 abs:Q.map pabs=pairsOf (L.map pabs)
 even:L.length % 2=0
 own:wr.ownsRow w.heap.size 206 2 v Q.length (flat Q)
 okr:∀ p ∈ rs,PcOk wr p
 okq:∀ p ∈ Q,PcOk wr p
 newq:∀ p ∈ Q,∀ a,p.ao=some a->w.heap.size<=a.block
 only:Only hb iv w wr
def PairOut (w w':World) (hb:Nat) (iv:Value) (ps:List Pc) (v:Value):Prop :=
 ∃ Q La,w'.ownsRow w.heap.size 206 2 v Q.length (flat Q) /\ La.Perm ps /\ (Srt La /\ DrP ps La []) /\ Q.map pabs=pairsOf (La.map pabs) /\ (∀ p ∈ Q,PcOk w' p) /\ (∀ p ∈ Q,∀ a,p.ao=some a->w.heap.size<=a.block) /\ Only hb iv w w'
section
variable {w wr w1 w2:World} {hb:Nat} {iv iv' iv1 iv2:Value} {ps rs rs1 rs2 L Q:List Pc} {v:Value} {p q:Pc} {ok1 ok2:Bool} {A:Obj}
theorem only_owns {a b:World} {iv0:Value} (h:Only hb iv0 a b) {B n:Nat} {xs:List Value} (hown:a.ownsRow B 206 2 v n xs) (hB:hb < B) (hi:∀ k,iv0.ownBlock=some k->k < B):b.ownsRow B 206 2 v n xs :=
 owns_kept hown fun k hk => h.block k (hown.lt k hk).2 (by have:=(hown.lt k hk).1;omega) (fun e => by have:=hi k e;have:=(hown.lt k hk).1;omega)
theorem two_takes (HI:PairInv w wr hb iv iv' ps rs L Q v) (T1:Heap w1 hb iv1 rs1 /\ HO rs1 /\ Only hb iv' wr w1 /\ iv1.ownBlock=iv'.ownBlock /\ Took rs rs1 p ok1)
  (T2:Heap w2 hb iv2 rs2 /\ HO rs2 /\ Only hb iv1 (w1.alloc A) w2 /\ iv2.ownBlock=iv1.ownBlock /\ Took rs1 rs2 q ok2) (HIV:∀ k,iv.ownBlock=some k->k < w.heap.size) (hlt:hb < w.heap.size) :
  iv2.ownBlock=iv.ownBlock /\ Only hb iv w w2 /\ w2.ownsRow w.heap.size 206 2 v Q.length (flat Q) /\ (∀ x ∈ Q,PcOk w2 x) /\ (∀ x ∈ rs,PcOk w2 x) /\ (∀ o v,w1.heap.size < w2.heap.size /\ ((w1.alloc A).cell? ⟨w1.heap.size,o,none⟩=some v->w2.cell? ⟨w1.heap.size,o,none⟩=some v)):=by
 obtain ⟨h1,o1,n1,s1,d1⟩:=T1
 obtain ⟨h2,o2,n2,s2,d2⟩:=T2
 have e1:iv1.ownBlock=iv.ownBlock:=s1.trans HI.same
 have n1':Only hb iv wr w1:=only_own n1 HI.same
 have n2':Only hb iv (w1.alloc A) w2:=only_own n2 e1
 have ba:Below w1.heap.size w1 (w1.alloc A):=(Below.refl _ _).alloc (Nat.le_refl _) A
 have on1:Only hb iv w w1:=HI.only.trans n1'
 have ona:Only hb iv w (w1.alloc A):=on1.below ba
 have on2:Only hb iv w w2:=ona.trans n2'
 have h1a:Heap (w1.alloc A) hb iv1 rs1:=h1.below ba
 have hown1:=only_owns n1' HI.own hlt HIV
 have hown2:=only_owns n2' (hown1.alloc A) hlt HIV
 have ok:∀ x,PcOk wr x->PcOk w2 x:=fun x hx => ((hx.only HI.heap n1).below ba).only h1a n2
 have z1:w.heap.size<=w1.heap.size:=on1.size
 have z2:w1.heap.size < w2.heap.size:=by have:=n2.size;simp at this;omega
 refine ⟨s2.trans e1,on2,hown2,fun x hx => ok x (HI.okq x hx),fun x hx => ok x (HI.okr x hx),fun o v => ⟨z2,fun hv => ?_⟩⟩
 exact only_cell n2' (by omega) (fun e => by have:=HIV _ e;omega) hv
theorem pair_end (HI:PairInv w wr hb iv iv' ps rs L Q v) (d1:Took rs rs1 p ok1) (d2:Took rs1 rs2 q false):∃ La,La.Perm ps /\ (Srt La /\ DrP ps La []) /\ Q.map pabs=pairsOf (La.map pabs):=by
 have e1:rs1=[]:=by
  rcases d2 with ⟨_,e,_⟩ | ⟨e,_⟩
  ·exact e
  ·cases e
 refine ⟨L ++ rs,HI.perm,⟨?_,?_⟩,?_⟩
 ·refine List.pairwise_append.2 ⟨HI.srt,?_,HI.le⟩
  rcases d1 with ⟨_,e,_⟩ | ⟨_,e,_⟩
  ·rw [e];exact List.Pairwise.nil
  ·rw [e1] at e
   have e3:rs=[p]:=(List.perm_singleton.1 e.symm)
   rw [e3];exact List.pairwise_singleton _ _
 ·rcases d1 with ⟨_,e,_⟩ | ⟨_,e,_,hp0,tk⟩
  ·have h:=HI.dr
   rw [e] at h
   rw [e,List.append_nil]
   exact h
  ·rw [e1] at e tk
   have e3:rs=[p]:=(List.perm_singleton.1 e.symm)
   have h:=HI.dr.snoc _ _ tk
   rw [<- hp0] at h
   rw [e3]
   exact h
 ·rcases d1 with ⟨_,e,_⟩ | ⟨_,e,_⟩
  ·rw [e,List.append_nil];exact HI.abs
  ·rw [e1] at e
   have e3:rs=[p]:=(List.perm_singleton.1 e.symm)
   rw [e3,List.map_append,HI.abs]
   exact (pairsOf_one _ (by simpa using HI.even) _).symm
theorem pair_next (HI:PairInv w wr hb iv iv' ps rs L Q v) (d1:Took rs rs1 p ok1) (d2:Took rs1 rs2 q true) :
  (L ++ [p,q] ++ rs2).Perm ps /\ Srt (L ++ [p,q]) /\ ((∀ a ∈ L ++ [p,q],∀ b ∈ rs2,a.wt<=b.wt) /\ DrP ps (L ++ [p,q]) rs2) /\ pairsOf ((L ++ [p,q]).map pabs)=pairsOf (L.map pabs) ++ [(p.wt+q.wt,p.sy ++ q.sy)] /\ p ∈ rs /\ q ∈ rs /\ (∀ x ∈ rs2,x ∈ rs) /\ rs2.length+2=rs.length /\ p ∈ ps /\ q ∈ ps:=by
 obtain ⟨e2,m2,hq0,tk2⟩:(q :: rs2).Perm rs1 /\ (∀ x ∈ rs2,q.wt<=x.wt) /\ q=rs1.getD 0 Pc.zero /\ TakP rs1 rs2:=by
  rcases d2 with ⟨e,_⟩ | ⟨_,e,m⟩
  ·cases e
  ·exact ⟨e,m⟩
 obtain ⟨e1,m1,hp0,tk1⟩:(p :: rs1).Perm rs /\ (∀ x ∈ rs1,p.wt<=x.wt) /\ p=rs.getD 0 Pc.zero /\ TakP rs rs1:=by
  rcases d1 with ⟨_,_,e⟩ | ⟨_,e,m⟩
  ·rw [e] at e2;have:=e2.length_eq;simp at this
  ·exact ⟨e,m⟩
 have hdr:DrP ps (L ++ [p,q]) rs2:=by
  have h:=(HI.dr.snoc _ _ tk1).snoc _ _ tk2
  rw [<- hp0,<- hq0,List.append_assoc] at h
  exact h
 have e3:(p :: q :: rs2).Perm rs:=(List.Perm.cons p e2).trans e1
 have hp:p ∈ rs:=e3.subset (by simp)
 have hq:q ∈ rs:=e3.subset (by simp)
 have hr:∀ x ∈ rs2,x ∈ rs:=fun x hx => e3.subset (by simp [hx])
 have hq1:q ∈ rs1:=e2.subset (by simp)
 refine ⟨?_,?_,⟨?_,hdr⟩,?_,hp,hq,hr,?_,HI.perm.subset (by simp [hp]),HI.perm.subset (by simp [hq])⟩
 ·rw [List.append_assoc]
  exact (List.Perm.append_left L (by simpa using e3)).trans HI.perm
 ·refine List.pairwise_append.2 ⟨HI.srt,?_,fun a ha b hb => HI.le a ha b (by simp at hb;rcases hb with rfl | rfl <;> assumption)⟩
  exact List.pairwise_pair.2 (m1 q hq1)
 ·intro a ha b hb
  rcases List.mem_append.1 ha with ha | ha
  ·exact HI.le a ha b (hr b hb)
  ·simp at ha
   rcases ha with rfl | rfl
   ·exact m1 b (e2.subset (by simp [hb]))
   ·exact m2 b hb
 ·rw [List.map_append]
  exact pairsOf_snoc _ (by simpa using HI.even) _ _
 ·have:=e3.length_eq;simpa using this
theorem grow_cell {w4 w5:World} {B:Obj} {row:Option Nat} {a:Addr} {u:Value} (hg:(w4.alloc B).grownBy w5 row) (hv:w4.cell? a=some u) (hne:some a.block ≠ row):w5.cell? a=some u :=
 hg.cell ((World.cell?_of_block (w:=w4) (Below.heap_alloc w4 B a.block (World.block_lt_of_cell? w4 a hv))).trans hv) hne
theorem pair_mid {w4:World} {a1 a2:Option Addr} {n1 n2 c1 c2:Nat} {x y:Int} {X:Obj} (x0:w2.cell? ⟨w1.heap.size,0,none⟩=some (.int .i64 x)) (x1:w2.cell? ⟨w1.heap.size,1,none⟩=some (.slice a1 n1 c1)) (ov:w2.ownsRow w.heap.size 206 2 v Q.length (flat Q))
  (hb4:Below ((w2.alloc (.cells #[.int .i64 y,.slice a2 n2 c2] 206)).alloc X).drew.heap.size ((w2.alloc (.cells #[.int .i64 y,.slice a2 n2 c2] 206)).alloc X).drew w4) :
  w4.cell? ⟨w1.heap.size,0,none⟩=some (.int .i64 x) /\ w4.cell? ⟨w1.heap.size,1,none⟩=some (.slice a1 n1 c1) /\ w4.cell? ⟨w2.heap.size,0,none⟩=some (.int .i64 y) /\ w4.cell? ⟨w2.heap.size,1,none⟩=some (.slice a2 n2 c2) /\ w4.ownsRow w.heap.size 206 2 v Q.length (flat Q) /\ w2.heap.size+2<=w4.heap.size:=by
 have z:w2.heap.size+2<=w4.heap.size:=by have:=hb4.size;simp at this;omega
 have b1:Below (w2.alloc (.cells #[.int .i64 y,.slice a2 n2 c2] 206)).heap.size (w2.alloc (.cells #[.int .i64 y,.slice a2 n2 c2] 206)) w4:=((Below.refl _ _).alloc (Nat.le_refl _) X).drew.trans (hb4.mono (by simp))
 have b2:Below w2.heap.size w2 w4:=((Below.refl _ _).alloc (Nat.le_refl _) _).trans (b1.mono (by simp))
 have hl:w1.heap.size < w2.heap.size:=World.block_lt_of_cell? w2 _ x0
 refine ⟨(b2.cell (p:=⟨w1.heap.size,0,none⟩) hl).trans x0,(b2.cell (p:=⟨w1.heap.size,1,none⟩) hl).trans x1,?_,?_,owns_kept ov fun k hk => b2.block k (ov.lt k hk).2,z⟩
 ·rw [b1.cell (p:=⟨w2.heap.size,0,none⟩) (by simp),cell_of_row _ _ 0 _ 206 (0,0) (heap_alloc_new w2 _)];rfl
 ·rw [b1.cell (p:=⟨w2.heap.size,1,none⟩) (by simp),cell_of_row _ _ 1 _ 206 (0,0) (heap_alloc_new w2 _)];rfl
theorem pair_step {w4 w5:World} {X B A1:Obj} {v':Value} {g cap n:Nat} (HI:PairInv w wr hb iv iv' ps rs L Q v) (T2h:Heap w2 hb iv2 rs2) (T2o:HO rs2) (TT:iv2.ownBlock=iv.ownBlock /\ Only hb iv w w2 /\ w2.ownsRow w.heap.size 206 2 v Q.length (flat Q) /\ (∀ x ∈ Q,PcOk w2 x) /\ (∀ x ∈ rs,PcOk w2 x))
  (PN:(L ++ [p,q] ++ rs2).Perm ps /\ Srt (L ++ [p,q]) /\ ((∀ a ∈ L ++ [p,q],∀ b ∈ rs2,a.wt<=b.wt) /\ DrP ps (L ++ [p,q]) rs2) /\ pairsOf ((L ++ [p,q]).map pabs)=pairsOf (L.map pabs) ++ [(p.wt+q.wt,p.sy ++ q.sy)] /\ (∀ x ∈ rs2,x ∈ rs))
  (HIV:∀ k,iv.ownBlock=some k->k < w.heap.size) (hlt:hb < w.heap.size) (hb4:Below ((w2.alloc A1).alloc X).drew.heap.size ((w2.alloc A1).alloc X).drew w4) (hg0:((w2.alloc A1).alloc X).drew.heap.size<=g) (hn0:0 < (p.sy ++ q.sy).length)
  (hown4:w4.ownsRow ((w2.alloc A1).alloc X).drew.heap.size 3 1 (.slice (some ⟨g,0,none⟩) n cap) n ((p.sy ++ q.sy).map (Value.int .i64))) (hg5:(w4.alloc B).grownBy w5 v.ownBlock)
  (hown5:w5.ownsRow w.heap.size 206 2 v' (Q.length+1) (flat Q ++ [.int .i64 (p.wt+q.wt),.slice (some ⟨g,0,none⟩) (p.sy ++ q.sy).length cap])) :
  PairInv w w5 hb iv iv2 ps rs2 (L ++ [p,q]) (Q ++ [⟨some ⟨g,0,none⟩,cap,p.wt+q.wt,p.sy ++ q.sy⟩]) v':=by
 obtain ⟨s2,on2,own2,okq2,okr2⟩:=TT
 have ba:Below w2.heap.size w2 ((w2.alloc A1).alloc X).drew:=(((Below.refl _ _).alloc (Nat.le_refl _) A1).alloc (by simp) X).drew
 have b4:Below w2.heap.size w2 w4:=ba.trans (hb4.mono ba.size)
 have b4a:Below w2.heap.size w2 (w4.alloc B):=b4.alloc b4.size B
 have own4:(w4.alloc B).ownsRow w.heap.size 206 2 v Q.length (flat Q):=owns_kept own2 fun k hk => b4a.block k (own2.lt k hk).2
 have z2:w.heap.size<=w2.heap.size:=on2.size
 have vb:∀ k,v.ownBlock=some k->w.heap.size<=k:=fun k hk => (own2.lt k hk).1
 have h4:Heap (w4.alloc B) hb iv2 rs2:=T2h.below b4a
 have z4:=b4a.size
 have h5:Heap w5 hb iv2 rs2:=h4.kept (hg5.block hb (by omega) (fun e => by have:=vb hb e.symm;omega)) fun k hk => hg5.block k (h4.own.lt k hk).2 (fun e => by have:=vb k e.symm;rw [s2] at hk;have:=HIV k hk;omega)
 have ok5:∀ x,PcOk w2 x->PcOk w5 x:=fun x hx => (hx.below b4a).grown own4 hg5
 have okn:PcOk w5 ⟨some ⟨g,0,none⟩,cap,p.wt+q.wt,p.sy ++ q.sy⟩:=((PcOk.own hown4 hn0).below ((Below.refl _ _).alloc (Nat.le_refl _) B)).grown own4 hg5
 refine ⟨h5,s2,T2o,PN.1,PN.2.1,PN.2.2.1.1,PN.2.2.1.2,?_,?_,?_,fun x hx => ok5 x (okr2 x (PN.2.2.2.2 x hx)),fun x hx => ?_,fun x hx a ha => ?_,?_⟩
 ·rw [List.map_append,HI.abs,PN.2.2.2.1];rfl
 ·have:=HI.even;simp;omega
 ·rw [List.length_append,flat_append];exact hown5
 ·rcases List.mem_append.1 hx with hx | hx
  ·exact ok5 x (okq2 x hx)
  ·simp at hx;subst hx;exact okn
 ·rcases List.mem_append.1 hx with hx | hx
  ·exact HI.newq x hx a ha
  ·simp at hx;subst hx
   injection ha with ha
   subst ha
   have:=ba.size
   show w.heap.size<=g
   omega
 ·exact ⟨hg5.os.trans (b4a.os.trans on2.os),hg5.tape.trans (b4a.tape.trans on2.tape),hg5.output.trans (b4a.output.trans on2.output),by have:=hg5.size;omega,
   fun k h1 h2 h3 => by rw [hg5.block k (by omega) (fun e => by have:=vb k e.symm;omega),b4a.block k (by omega),on2.block k h1 h2 h3]⟩
end
set_option maxRecDepth 20000 in
set_option maxHeartbeats 4000000 in
theorem pairUp_any {w:World} {hb:Nat} {iv:Value} {ps:List Pc} (h:Heap w hb iv ps) (ho:HO ps) (hok:∀ p ∈ ps,PcOk w p) (hn:ps.length<=10000) (hw:∀ p ∈ ps,0 < p.wt /\ p.wt<=70368744177664) (hsy:∀ p ∈ ps,p.sy.length<=1000000) :
  Calls Tryz.prog 179 #[.pointer (some ⟨hb,0,none⟩)] w fun e w' => ∃ v,e = .returned v /\ PairOut w w' hb iv ps v:=by
 obtain ⟨i0,hi0,hz0,hz1,hz2⟩:=info_parts info58
 have H0:Hid (PairInv w w hb iv iv ps ps [] [] (.slice none 0 0)):=⟨h,rfl,ho,List.Perm.refl _,List.Pairwise.nil,(fun a ha => by cases ha),rfl,rfl,rfl,World.ownsRow_nil _ _ _ _,hok,(fun p hp => by cases hp),(fun p hp => by cases hp),Only.refl _ _ _⟩
 have HW:=hid hw
 have HSY:=hid hsy
 have HIV:Hid (∀ k,iv.ownBlock=some k->k < w.heap.size):=fun k hk => (h.own.lt k hk).2
 have hlt0:=h.lt
 clear h ho hok hw hsy
 go_enter Tryz.func179,Tryz.ntmps179
 go_wp2
 go_loopg [3] (ps.length+1) (fun gk v wr => ∃ (iv':Value) (rs L Q:List Pc),rs.length < gk /\ Q.length<=ps.length /\ Hid (PairInv w wr hb iv iv' ps rs L Q v))
 case atStart => exact ⟨iv,ps,[],[],by omega,by simp,H0.out⟩
 case round =>
  clear H0
  obtain ⟨iv',rs,L,Q,hgk,hQl,HI⟩:=hrel
  have hrl:rs.length<=10000:=by have:=HI.out.perm.length_eq;simp at this;omega
  go_wp2_with fail
  refine (heaptake_any HI.out.heap HI.out.ho (by omega)).mono ?_
  rintro e w1 ⟨p,ok1,iv1,rs1,rfl,th1,to1,tn1,ts1,td1⟩
  have T1:=hid (show _ /\ _ /\ _ /\ _ /\ _ from ⟨th1,to1,tn1,ts1,td1⟩)
  have hrl1:rs1.length<=10000:=by
   rcases td1 with ⟨_,_,e⟩ | ⟨_,e,_⟩
   ·rw [e];simp
   ·have:=e.length_eq;simp at this;omega
  clear th1 to1 tn1 ts1 td1
  go_wp2_with fail
  refine (heaptake_any (T1.out.1.below ((Below.refl _ _).alloc (Nat.le_refl _) _)) T1.out.2.1 (by omega)).mono ?_
  rintro e w2 ⟨q,ok2,iv2,rs2,rfl,th2,to2,tn2,ts2,td2⟩
  have T2:=hid (show _ /\ _ /\ _ /\ _ /\ _ from ⟨th2,to2,tn2,ts2,td2⟩)
  have TT:=hid (two_takes HI.out T1.out T2.out HIV.out hlt0)
  clear th2 to2 tn2 ts2 td2
  cases ok2 with
  | false =>
   go_wp2
   go_ret
   obtain ⟨La,l1,l2,l3⟩:=pair_end HI.out T1.out.2.2.2.2 T2.out.2.2.2.2
   have bb:∀ B:Obj,Below w2.heap.size w2 (w2.alloc B):=fun B => (Below.refl _ _).alloc (Nat.le_refl _) B
   exact ⟨_,rfl,Q,La,TT.out.2.2.1.alloc _,l1,l2,l3,fun x hx => (TT.out.2.2.2.1 x hx).below (bb _),HI.out.newq,TT.out.2.1.below (bb _)⟩
  | true =>
   have PN:=hid (pair_next HI.out T1.out.2.2.2.2 T2.out.2.2.2.2)
   go_wp2
   have okp:=(TT.out.2.2.2.2.1 p PN.out.2.2.2.2.1).below ((Below.refl _ _).alloc (Nat.le_refl _) (.cells #[.int .i64 q.wt,.slice q.ao q.sy.length q.c] 206))
   have okq:=(TT.out.2.2.2.2.1 q PN.out.2.2.2.2.2.1).below ((Below.refl _ _).alloc (Nat.le_refl _) (.cells #[.int .i64 q.wt,.slice q.ao q.sy.length q.c] 206))
   have wp:=HW.out p PN.out.2.2.2.2.2.2.2.2.1
   have wq:=HW.out q PN.out.2.2.2.2.2.2.2.2.2
   have sp:=HSY.out p PN.out.2.2.2.2.2.2.2.2.1
   have sq:=HSY.out q PN.out.2.2.2.2.2.2.2.2.2
   obtain ⟨pao,pc,pw,psy⟩:=p
   obtain ⟨qao,qc,qw,qsy⟩:=q
   obtain ⟨gp,e1,segp,lp⟩:=okp.seg
   obtain ⟨gq,e2,segq,lq⟩:=okq.seg
   dsimp only at e1 e2 segp segq lp lq wp wq sp sq ⊢
   subst e1 e2
   have x0:w2.cell? ⟨w1.heap.size,0,none⟩=some (.int .i64 pw):=(TT.out.2.2.2.2.2 0 _).2 (by rw [cell_of_row _ _ 0 _ 206 (0,0) (heap_alloc_new w1 _)];rfl)
   have x1:w2.cell? ⟨w1.heap.size,1,none⟩=some (.slice (some ⟨gp,0,none⟩) psy.length pc):=(TT.out.2.2.2.2.2 1 _).2 (by rw [cell_of_row _ _ 1 _ 206 (0,0) (heap_alloc_new w1 _)];rfl)
   have z12:=(TT.out.2.2.2.2.2 0 (.int .i64 0)).1
   have zw:=TT.out.2.1.size
   have zw1:w.heap.size<=w1.heap.size:=(HI.out.only.trans (only_own T1.out.2.2.1 HI.out.same)).size
   obtain ⟨va,vc,hv,_⟩:=owns_shape TT.out.2.2.1
   have ov:=TT.out.2.2.1
   subst hv
   have vl:∀ k,(Value.slice va Q.length vc).ownBlock=some k->k < w1.heap.size:=fun k hk => by
    have h1:=(HI.out.own.lt k hk).2
    have:=T1.out.2.2.1.size
    omega
   have HVL:=hid vl
   have un1:(Value.slice va Q.length vc).ownBlock ≠ some w1.heap.size:=fun e => by have:=vl _ e;omega
   have un2:(Value.slice va Q.length vc).ownBlock ≠ some w2.heap.size:=fun e => by have:=vl _ e;omega
   have HOV:=hid ov
   have HUN1:=hid un1
   have HUN2:=hid un2
   have Hsegp:Hid (∀ o:Obj,Seg ((w2.alloc (.cells #[.int .i64 qw,.slice (some ⟨gq,0,none⟩) qsy.length qc] 206)).alloc o).drew (some ⟨gp,0,none⟩) psy):=fun o => segp.below (((Below.refl _ _).alloc (Nat.le_refl _) o).drew)
   have Hsegq:Hid (∀ o:Obj,Seg ((w2.alloc (.cells #[.int .i64 qw,.slice (some ⟨gq,0,none⟩) qsy.length qc] 206)).alloc o).drew (some ⟨gq,0,none⟩) qsy):=fun o => segq.below (((Below.refl _ _).alloc (Nat.le_refl _) o).drew)
   have HX0:=hid x0
   have HX1:=hid x1
   have KN0:Hid (∀ a b:Value,((w2.alloc (.cells #[.int .i64 qw,.slice (some ⟨gq,0,none⟩) qsy.length qc] 206)).alloc (.cells #[a,b] 23)).drew.cell? ⟨w2.heap.size+1,0,none⟩=some a):=fun a b => by
    simp
   have KN1:Hid (∀ a b:Value,((w2.alloc (.cells #[.int .i64 qw,.slice (some ⟨gq,0,none⟩) qsy.length qc] 206)).alloc (.cells #[a,b] 23)).drew.cell? ⟨w2.heap.size+1,1,none⟩=some b):=fun a b => by
    simp
   have hwr:IntKind.i64.wrap (pw+qw)=pw+qw:=by rw [IntKind.wrap_i64];omega
   clear vl okp okq segp segq ov un1 un2
   go_region_held3 (fun w' => w'.cell? ⟨w1.heap.size,0,none⟩=some (.int .i64 pw) /\ w'.cell? ⟨w1.heap.size,1,none⟩=some (.slice (some ⟨gp,0,none⟩) psy.length pc) /\ w'.cell? ⟨w2.heap.size,0,none⟩=some (.int .i64 qw) /\ w'.cell? ⟨w2.heap.size,1,none⟩=some (.slice (some ⟨gq,0,none⟩) qsy.length qc))
    (go_keep)
    (first
      | (go_at_call 159
         refine (concat_any (b:=w2.heap.size+1) ⟨gp,0,none⟩ ⟨gq,0,none⟩ pc qc psy qsy (Hsegp.out _) (Hsegq.out _) lp (by omega) (by omega) (KN0.out _ _) (KN1.out _ _)).mono ?_
         rintro e w4 ⟨g,cap,rfl,hg0,hown4,hb4⟩
         have MID:=pair_mid (v:=.slice va Q.length vc) (Q:=Q) (w:=w) HX0.out HX1.out HOV.out hb4
         obtain ⟨m0,m1,m2,m3,hov4,z4⟩:=MID
         have HOV4:=hid hov4
         have HOW4:=hid hown4
         have HB4:=hid hb4
         have HG0:=hid hg0
         clear hov4 hown4 hb4 hg0 x0 x1)
      | (refine step_append_lies _ (by rfl) _ _ _ (by rfl) w.heap.size 206 i0 _ 2 32 Tryz.underlying202 hi0 hz0 hz1 hz2 rfl (by omega) (.slice va Q.length vc) Q.length (flat Q) (by rfl) (HOV4.out.alloc _)
           ⟨w4.heap.size,0,none⟩ 1 1 [.int .i64 (pw+qw),.slice (some ⟨g,0,none⟩) (psy.length+qsy.length) cap] (by rfl) (by rfl) (cells_new w4 _ 206) (by simp [Value.oneCell'])
           (by omega) (by unfold maxLen;omega) (by omega) (by simp;omega) (w4.heap.size+1) (by simp) ?_
         intro gg cap5 w5 hown5 hgrow5 hat5 hlt5
         have n0:w5.cell? ⟨w1.heap.size,0,none⟩=some (.int .i64 pw):=grow_cell hgrow5 m0 (Ne.symm HUN1.out)
         have n1:w5.cell? ⟨w1.heap.size,1,none⟩=some (.slice (some ⟨gp,0,none⟩) psy.length pc):=grow_cell hgrow5 m1 (Ne.symm HUN1.out)
         have n2:w5.cell? ⟨w2.heap.size,0,none⟩=some (.int .i64 qw):=grow_cell hgrow5 m2 (Ne.symm HUN2.out)
         have n3:w5.cell? ⟨w2.heap.size,1,none⟩=some (.slice (some ⟨gq,0,none⟩) qsy.length qc):=grow_cell hgrow5 m3 (Ne.symm HUN2.out)))
   have STEP:=hid (pair_step (p:=⟨some ⟨gp,0,none⟩,pc,pw,psy⟩) (q:=⟨some ⟨gq,0,none⟩,qc,qw,qsy⟩) HI.out T2.out.1 T2.out.2.1 ⟨TT.out.1,TT.out.2.1,TT.out.2.2.1,TT.out.2.2.2.1,TT.out.2.2.2.2.1⟩ ⟨PN.out.1,PN.out.2.1,PN.out.2.2.1,PN.out.2.2.2.1,PN.out.2.2.2.2.2.2.1⟩ HIV.out hlt0 HB4.out HG0.out (by simp;omega) HOW4.out hgrow5 (by rw [List.length_append];exact hown5))
   have hr2:=PN.out.2.2.2.2.2.2.2.1
   have HR2:=hid hr2
   clear hr2 hown5 hgrow5 hat5 hlt5 n0 n1 n2 n3 m0 m1 m2 m3 hwr
   go_wp2
   go_roundg (rs2.length+1)
   case measure => have:=HR2.out;omega
   case rel =>
    have hQ:(Q ++ [(⟨some ⟨g,0,none⟩,cap,pw+qw,psy ++ qsy⟩:Pc)]).length<=ps.length:=by
     have h1:=congrArg List.length STEP.out.abs
     have h2:=STEP.out.perm.length_eq
     have h3:∀ l:List (Int × List Int),(pairsOf l).length<=l.length:=fun l => pairsOf_le l
     have h4:=h3 ((L ++ [(⟨some ⟨gp,0,none⟩,pc,pw,psy⟩:Pc),⟨some ⟨gq,0,none⟩,qc,qw,qsy⟩]).map pabs)
     simp only [List.length_map,List.length_append] at h1 h2 h4 ⊢
     omega
    exact ⟨iv2,rs2,_,_,by omega,hQ,STEP.out⟩
end Go.Proofs.YthdmjmnkhlpnnabGreatDoor
namespace Go.Proofs.YthdmjmnkhlpnnabGreatDoor
abbrev Ab:=Int × List Int
def SrtA (l:List Ab):Prop:=l.Pairwise fun a b => a.1<=b.1
def Lev (S:List Ab):Nat->List Ab->Prop
 | 0,Q => Q=[]
 | k+1,Q => ∃ P La,Lev S k P /\ La.Perm (S ++ P) /\ SrtA La /\ Q=pairsOf La
theorem pairsOf_length:∀ l:List Ab,(pairsOf l).length=l.length / 2
 | [] => rfl
 | [_] => by simp [pairsOf]
 | _ :: _ :: r => by simp [pairsOf,pairsOf_length r];omega
theorem pairsOf_mem:∀ {l:List Ab} {x:Ab},x ∈ pairsOf l -> ∃ a b,a ∈ l /\ b ∈ l /\ x=(a.1+b.1,a.2 ++ b.2)
 | [],x,h => by simp [pairsOf] at h
 | [_],x,h => by simp [pairsOf] at h
 | a :: b :: r,x,h => by
  simp only [pairsOf,List.mem_cons] at h
  rcases h with rfl | h
  ·exact ⟨a,b,by simp,by simp,rfl⟩
  ·obtain ⟨c,d,hc,hd,e⟩:=pairsOf_mem h
   exact ⟨c,d,by simp [hc],by simp [hd],e⟩
theorem lev_le {S:List Ab}:∀ {k:Nat} {Q:List Ab},Lev S k Q->Q.length<=S.length
 | 0,Q,h => by have e:Q=[]:=h;rw [e];simp
 | k+1,Q,h => by
  obtain ⟨P,La,h1,h2,_,rfl⟩:=h
  have:=lev_le h1
  have e:=h2.length_eq
  rw [pairsOf_length]
  simp at e
  omega
theorem lev_many {S:List Ab} (most:Nat) (hn:S.length<=2 ^ most):∀ {k:Nat} {Q:List Ab},k<=most->Lev S k Q->S.length<=Q.length+2 ^ (most - k)
 | 0,Q,_,h => by simpa using (by omega:S.length<=Q.length+2 ^ most)
 | k+1,Q,hk,h => by
  obtain ⟨P,La,h1,h2,_,rfl⟩:=h
  have ih:=lev_many most hn (by omega) h1
  have e:=h2.length_eq
  have e2:most - k=(most - (k+1))+1:=by omega
  rw [e2,Nat.pow_succ] at ih
  rw [pairsOf_length]
  simp at e
  omega
theorem lev_bound {S:List Ab} {M:Nat} (hS:∀ x ∈ S,0 < x.1 /\ x.1<=M /\ x.2.length=1):∀ {k:Nat} {Q:List Ab},Lev S k Q -> ∀ x ∈ S ++ Q,0 < x.1 /\ x.1<=M*2 ^ k /\ 0 < x.2.length /\ x.2.length<=2 ^ k
 | 0,Q,h,x,hx => by
  have e:Q=[]:=h
  rw [e,List.append_nil] at hx
  have:=hS x hx
  simp
  omega
 | k+1,Q,h,x,hx => by
  obtain ⟨P,La,h1,h2,_,rfl⟩:=h
  have ih:=lev_bound hS h1
  have hp:=Nat.two_pow_pos k
  rcases List.mem_append.1 hx with hx | hx
  ·have h3:=ih x (List.mem_append.2 (.inl hx))
   have e3:M*2 ^ (k+1)=M*2 ^ k*2:=by rw [Nat.pow_succ,Nat.mul_assoc]
   have e4:2 ^ (k+1)=2 ^ k*2:=Nat.pow_succ ..
   push_cast at *
   have e5:(M:Int)*2 ^ (k+1)=M*2 ^ k*2:=by rw [Int.pow_succ,Int.mul_assoc]
   refine ⟨h3.1,by omega,h3.2.2.1,by omega⟩
  ·obtain ⟨a,b,ha,hb,rfl⟩:=pairsOf_mem hx
   have h3:=ih a (h2.subset ha)
   have h4:=ih b (h2.subset hb)
   have e4:2 ^ (k+1)=2 ^ k*2:=Nat.pow_succ ..
   push_cast at *
   have e5:(M:Int)*2 ^ (k+1)=M*2 ^ k*2:=by rw [Int.pow_succ,Int.mul_assoc]
   refine ⟨by omega,by omega,by simp;omega,by simp;omega⟩
end Go.Proofs.YthdmjmnkhlpnnabGreatDoor
namespace Go.Proofs.YthdmjmnkhlpnnabGreatDoor
theorem mem_perm {α:Type} {x:α} {l:List α} (h:x ∈ l):∃ r,l.Perm (x :: r):=by
 obtain ⟨s,t,rfl⟩:=List.append_of_mem h
 exact ⟨s ++ t,List.perm_middle⟩
def Down (T U R:List Ab):Prop:=(T ++ R).Perm U /\ ∀ a ∈ T,∀ b ∈ R,a.1<=b.1
theorem down_items:∀ {La T R:List Ab},SrtA La->(∀ x ∈ La,0 < x.1)->Down T (pairsOf La) R ->
  ∃ I J,Down I La J /\ I.length=2*T.length /\ (I.flatMap Prod.snd).Perm (T.flatMap Prod.snd) /\ ∀ x ∈ I,∃ x' ∈ La,∃ t ∈ T,t.1=x.1+x'.1
 | [],T,R,_,_,h => by
  have e:T ++ R=[]:=List.Perm.eq_nil h.1
  simp at e
  obtain ⟨rfl,rfl⟩:=e
  exact ⟨[],[],⟨List.Perm.refl _,by simp⟩,rfl,List.Perm.refl _,by simp⟩
 | [c],T,R,_,_,h => by
  have e:T ++ R=[]:=List.Perm.eq_nil h.1
  simp at e
  obtain ⟨rfl,rfl⟩:=e
  exact ⟨[],[c],⟨List.Perm.refl _,by simp⟩,rfl,List.Perm.refl _,by simp⟩
 | a :: b :: r,T,R,hs,hpos,h => by
  have hs1:=List.pairwise_cons.1 hs
  have hs2:=List.pairwise_cons.1 hs1.2
  have hr:SrtA r:=hs2.2
  have hpr:∀ x ∈ r,0 < x.1:=fun x hx => hpos x (by simp [hx])
  obtain ⟨hp,hle⟩:=h
  simp only [pairsOf] at hp
  have hmem:(a.1+b.1,a.2 ++ b.2) ∈ T ++ R:=hp.symm.subset (by simp)
  by_cases hT:(a.1+b.1,a.2 ++ b.2) ∈ T
  ·obtain ⟨T0,hT0⟩:=mem_perm hT
   have hp0:(T0 ++ R).Perm (pairsOf r):=List.Perm.cons_inv (((hT0.append_right R).symm.trans hp))
   obtain ⟨I,J,d,hl,hf,hx⟩:=down_items hr hpr ⟨hp0,fun x hx y hy => hle x (hT0.symm.subset (by simp [hx])) y hy⟩
   refine ⟨a :: b :: I,J,⟨?_,?_⟩,?_,?_,?_⟩
   ·exact List.Perm.cons _ (List.Perm.cons _ d.1)
   ·intro x hx y hy
    have hyr:y ∈ r:=d.1.subset (by simp [hy])
    rcases List.mem_cons.1 hx with rfl | hx
    ·exact hs1.1 y (by simp [hyr])
    ·rcases List.mem_cons.1 hx with rfl | hx
     ·exact hs2.1 y hyr
     ·exact d.2 x hx y hy
   ·have:=hT0.length_eq;simp at this ⊢;omega
   ·have h1:(T.flatMap Prod.snd).Perm ((((a.1+b.1,a.2 ++ b.2):Ab) :: T0).flatMap Prod.snd):=hT0.flatMap_right _
    refine List.Perm.trans ?_ h1.symm
    simp only [List.flatMap_cons,List.append_assoc]
    exact List.Perm.append_left _ (List.Perm.append_left _ hf)
   ·intro x hx'
    rcases List.mem_cons.1 hx' with rfl | hx'
    ·exact ⟨b,by simp,_,hT,rfl⟩
    ·rcases List.mem_cons.1 hx' with rfl | hx'
     ·exact ⟨a,by simp,_,hT,by simp;omega⟩
     ·obtain ⟨y,hy,t,ht,e⟩:=hx x hx'
      exact ⟨y,by simp [hy],t,hT0.symm.subset (by simp [ht]),e⟩
  ·have hR:(a.1+b.1,a.2 ++ b.2) ∈ R:=by
    rcases List.mem_append.1 hmem with h | h
    ·exact absurd h hT
    ·exact h
   obtain ⟨R0,hR0⟩:=mem_perm hR
   have hp0:(T ++ R0).Perm (pairsOf r):=List.Perm.cons_inv ((List.perm_middle.symm.trans ((hR0.append_left T).symm)).trans hp)
   obtain ⟨I,J,d,hl,hf,hx⟩:=down_items hr hpr ⟨hp0,fun x hx y hy => hle x hx y (hR0.symm.subset (by simp [hy]))⟩
   refine ⟨I,a :: b :: J,⟨?_,?_⟩,hl,hf,?_⟩
   ·exact (List.perm_middle.trans (List.Perm.cons _ List.perm_middle)).trans (List.Perm.cons _ (List.Perm.cons _ d.1))
   ·intro x hxI y hy
    obtain ⟨x',hx',t,ht,e⟩:=hx x hxI
    have h1:=hle t ht _ hR
    have h2:=hs2.1 x' hx'
    have h3:=hs1.1 b (by simp)
    simp at h1
    rcases List.mem_cons.1 hy with rfl | hy
    ·omega
    ·rcases List.mem_cons.1 hy with rfl | hy
     ·omega
     ·exact d.2 x hxI y hy
   ·intro x hxI
    obtain ⟨y,hy,t,ht,e⟩:=hx x hxI
    exact ⟨y,by simp [hy],t,ht,e⟩
theorem split4:∀ {S P I J:List Ab},(I ++ J).Perm (S ++ P) -> ∃ A B C D,(A ++ B).Perm S /\ (C ++ D).Perm P /\ I.Perm (A ++ C) /\ J.Perm (B ++ D)
 | [],P,I,J,h => ⟨[],[],I,J,List.Perm.refl _,by simpa using h,by simp,by simp⟩
 | s :: S,P,I,J,h => by
  have hm:s ∈ I ++ J:=h.symm.subset (by simp)
  rcases List.mem_append.1 hm with hi | hj
  ·obtain ⟨I0,hI⟩:=mem_perm hi
   have h0:(I0 ++ J).Perm (S ++ P):=List.Perm.cons_inv ((hI.append_right J).symm.trans h)
   obtain ⟨A,B,C,D,h1,h2,h3,h4⟩:=split4 h0
   exact ⟨s :: A,B,C,D,List.Perm.cons _ h1,h2,hI.trans (List.Perm.cons _ h3),h4⟩
  ·obtain ⟨J0,hJ⟩:=mem_perm hj
   have h0:(I ++ J0).Perm (S ++ P):=List.Perm.cons_inv ((List.perm_middle.symm.trans (hJ.append_left I).symm).trans h)
   obtain ⟨A,B,C,D,h1,h2,h3,h4⟩:=split4 h0
   exact ⟨A,s :: B,C,D,List.perm_middle.trans (List.Perm.cons _ h1),h2,h3,hJ.trans (List.Perm.cons _ h4)⟩
theorem pairs_ge:∀ {l:List Ab} {c:Int},(∀ x ∈ l,c<=x.1) -> ∀ y ∈ pairsOf l,c+c<=y.1
 | [],c,_,y,hy => by simp [pairsOf] at hy
 | [_],c,_,y,hy => by simp [pairsOf] at hy
 | a :: b :: r,c,h,y,hy => by
  simp only [pairsOf,List.mem_cons] at hy
  rcases hy with rfl | hy
  ·have h1:=h a (by simp);have h2:=h b (by simp);simp;omega
  ·exact pairs_ge (fun x hx => h x (by simp [hx])) y hy
theorem pairs_srt:∀ {l:List Ab},SrtA l->SrtA (pairsOf l)
 | [],_ => List.Pairwise.nil
 | [_],_ => List.Pairwise.nil
 | a :: b :: r,h => by
  have h1:=List.pairwise_cons.1 h
  have h2:=List.pairwise_cons.1 h1.2
  simp only [pairsOf]
  refine List.pairwise_cons.2 ⟨fun y hy => ?_,pairs_srt h2.2⟩
  have h3:=pairs_ge h2.1 y hy
  have h4:=h1.1 b (by simp)
  simp
  omega
theorem lev_srt {S Q:List Ab}:∀ {k:Nat},Lev S k Q->SrtA Q
 | 0,h => by have e:Q=[]:=h;rw [e];exact List.Pairwise.nil
 | k+1,h => by obtain ⟨P,La,_,_,h3,rfl⟩:=h;exact pairs_srt h3
theorem down_take {l:List Ab} (h:SrtA l) (t:Nat):Down (l.take t) l (l.drop t):=by
 refine ⟨by rw [List.take_append_drop],fun a ha b hb => ?_⟩
 have h1:SrtA (l.take t ++ l.drop t):=by rw [List.take_append_drop];exact h
 exact (List.pairwise_append.1 h1).2.2 a ha b hb
end Go.Proofs.YthdmjmnkhlpnnabGreatDoor
namespace Go.Proofs.YthdmjmnkhlpnnabGreatDoor
def absy (x:Ab):Int:=x.2.headD 0
def occ (T:List Ab) (s:Int):Nat:=(T.flatMap Prod.snd).count s
theorem occ_perm {T U:List Ab} (h:(T.flatMap Prod.snd).Perm (U.flatMap Prod.snd)) (s:Int):occ T s=occ U s:=h.count_eq s
theorem occ_append (T U:List Ab) (s:Int):occ (T ++ U) s=occ T s+occ U s:=by simp [occ,List.count_append]
def tot (f:Ab->Nat):List Ab->Nat
 | [] => 0
 | x :: r => f x+tot f r
theorem tot_perm {f:Ab->Nat} {l r:List Ab} (h:l.Perm r):tot f l=tot f r:=by
 induction h with
 | nil => rfl
 | cons x _ ih => simp [tot,ih]
 | swap x y l => simp [tot];omega
 | trans _ _ ih1 ih2 => exact ih1.trans ih2
theorem tot_append (f:Ab->Nat) (l r:List Ab):tot f (l ++ r)=tot f l+tot f r:=by
 induction l with
 | nil => simp [tot]
 | cons x l ih => simp [tot,ih];omega
theorem tot_congr {f g:Ab->Nat} {l:List Ab} (h:∀ x ∈ l,f x=g x):tot f l=tot g l:=by
 induction l with
 | nil => rfl
 | cons x l ih => simp [tot,h x (by simp),ih (fun y hy => h y (by simp [hy]))]
theorem tot_add (f:Ab->Nat) (c:Nat) (l:List Ab):tot (fun x => c+f x) l=c*l.length+tot f l:=by
 induction l with
 | nil => simp [tot]
 | cons x l ih => simp [tot,ih,Nat.mul_succ];omega
theorem tot_zero (l:List Ab):tot (fun _ => 0) l=0:=by
 induction l with
 | nil => rfl
 | cons x l ih => simp [tot,ih]
structure Sg (S:List Ab) (cw:Int->Int):Prop where
 one:∀ x ∈ S,x.2=[absy x]
 nodup:(S.map absy).Nodup
 wt:∀ x ∈ S,x.1=cw (absy x)
 pos:∀ x ∈ S,0 < x.1
def isum:List Int->Int
 | [] => 0
 | x :: r => x+isum r
theorem isum_append (l r:List Int):isum (l ++ r)=isum l+isum r:=by
 induction l with
 | nil => simp [isum]
 | cons x l ih => simp [isum,ih];omega
theorem lev_wt {S:List Ab} {cw:Int->Int} (hS:Sg S cw):∀ {k:Nat} {Q:List Ab},Lev S k Q -> ∀ x ∈ Q,x.1=isum (x.2.map cw) /\ 2<=x.2.length /\ ∀ s ∈ x.2,0 < cw s
 | 0,Q,h,x,hx => by have e:Q=[]:=h;rw [e] at hx;cases hx
 | k+1,Q,h,x,hx => by
  obtain ⟨P,La,h1,h2,_,rfl⟩:=h
  obtain ⟨a,b,ha,hb,rfl⟩:=pairsOf_mem hx
  have one:∀ c ∈ La,c.1=isum (c.2.map cw) /\ 1<=c.2.length /\ ∀ s ∈ c.2,0 < cw s:=fun c hc => by
   rcases List.mem_append.1 (h2.subset hc) with h | h
   ·have e:=hS.one c h
    have w:=hS.wt c h
    have p:=hS.pos c h
    rw [e]
    refine ⟨by simp [isum];exact w,by simp,fun s hs => ?_⟩
    simp at hs
    rw [hs,<- w];exact p
   ·obtain ⟨q1,q2,q3⟩:=lev_wt hS h1 c h
    exact ⟨q1,by omega,q3⟩
  obtain ⟨a1,a2,a3⟩:=one a ha
  obtain ⟨b1,b2,b3⟩:=one b hb
  refine ⟨by simp only [List.map_append,isum_append];omega,by simp;omega,fun s hs => ?_⟩
  rcases List.mem_append.1 hs with h | h
  ·exact a3 s h
  ·exact b3 s h
theorem isum_mem {cw:Int->Int}:∀ {l:List Int},(∀ s ∈ l,0 < cw s)->0<=isum (l.map cw) /\ ∀ s ∈ l,cw s<=isum (l.map cw) /\ (2<=l.length->cw s < isum (l.map cw))
 | [],_ => ⟨by simp [isum],fun s hs => by cases hs⟩
 | x :: r,h => by
  obtain ⟨i1,i2⟩:=isum_mem (l:=r) (fun s hs => h s (by simp [hs]))
  have hx:=h x (by simp)
  refine ⟨by simp [isum];omega,fun s hs => ?_⟩
  rcases List.mem_cons.1 hs with rfl | hs
  ·refine ⟨by simp [isum];omega,fun h2 => ?_⟩
   cases r with
   | nil => simp at h2
   | cons y r =>
    have hy:=h y (by simp)
    have:=(i2 y (by simp)).1
    simp [isum] at this ⊢
    omega
  ·have:=(i2 s hs).1
   exact ⟨by simp [isum];omega,fun _ => by simp [isum];omega⟩
theorem occ_singles {A:List Ab} (h1:∀ x ∈ A,x.2=[absy x]) (s:Int):occ A s=(A.map absy).count s:=by
 unfold occ
 congr 1
 induction A with
 | nil => rfl
 | cons x r ih =>
  rw [List.flatMap_cons,h1 x (by simp),ih (fun y hy => h1 y (by simp [hy]))]
  rfl
theorem kraft {S:List Ab} {cw:Int->Int} (hS:Sg S cw):∀ {k:Nat} {Q T R:List Ab},Lev S k Q->Down T Q R ->
  (∀ x ∈ S,occ T (absy x)<=k) /\ (∀ x ∈ S,∀ y ∈ S,x.1 < y.1->occ T (absy y)<=occ T (absy x)) /\ tot (fun x => 2 ^ k - 2 ^ (k - occ T (absy x))) S=2 ^ k*T.length
 | 0,Q,T,R,h,d => by
  have e:Q=[]:=h
  have e2:T ++ R=[]:=by have:=d.1;rw [e] at this;exact List.Perm.eq_nil this
  simp at e2
  obtain ⟨rfl,rfl⟩:=e2
  have z:∀ s,occ [] s=0:=fun s => rfl
  refine ⟨fun x _ => by rw [z];omega,fun x _ y _ _ => by rw [z,z];omega,?_⟩
  simp [z,tot_zero]
 | k+1,Q,T,R,h,d => by
  obtain ⟨P,La,h1,h2,h3,rfl⟩:=h
  have hposP:∀ x ∈ La,0 < x.1:=fun x hx => by
   rcases List.mem_append.1 (h2.subset hx) with h | h
   ·exact hS.pos x h
   ·obtain ⟨q1,q2,q3⟩:=lev_wt hS h1 x h
    have hm:=isum_mem q3
    cases hx2:x.2 with
    | nil => rw [hx2] at q2;simp at q2
    | cons s r =>
     have hs:s ∈ x.2:=by rw [hx2];simp
     have:=(hm.2 s hs).1
     have:=q3 s hs
     omega
  obtain ⟨I,J,dI,hIl,hIf,_⟩:=down_items h3 hposP d
  obtain ⟨A,B,C,D,s1,s2,s3,s4⟩:=split4 (dI.1.trans h2)
  have dle:∀ a ∈ A ++ C,∀ b ∈ B ++ D,a.1<=b.1:=fun a ha b hb => dI.2 a (s3.symm.subset ha) b (s4.symm.subset hb)
  have dC:Down C P D:=⟨s2,fun a ha b hb => dle a (by simp [ha]) b (by simp [hb])⟩
  obtain ⟨ih1,ih2,ih3⟩:=kraft hS h1 dC
  have hAS:∀ x ∈ A,x ∈ S:=fun x hx => s1.subset (by simp [hx])
  have hBS:∀ x ∈ B,x ∈ S:=fun x hx => s1.subset (by simp [hx])
  have hnd:((A ++ B).map absy).Nodup:=((s1.map absy).nodup_iff).2 hS.nodup
  rw [List.map_append,List.nodup_append] at hnd
  have hocc:∀ s,occ T s=occ A s+occ C s:=fun s => by
   rw [<- occ_perm hIf s,occ_perm (s3.flatMap_right Prod.snd) s,occ_append]
  have hA1:∀ x ∈ A,occ A (absy x)=1:=fun x hx => by
   rw [occ_singles (fun y hy => hS.one y (hAS y hy)),hnd.1.count,if_pos (List.mem_map.2 ⟨x,hx,rfl⟩)]
  have hB0:∀ x ∈ B,occ A (absy x)=0:=fun x hx => by
   rw [occ_singles (fun y hy => hS.one y (hAS y hy)),hnd.1.count,if_neg]
   intro hm
   exact hnd.2.2 _ hm _ (List.mem_map.2 ⟨x,hx,rfl⟩) rfl
  have hC0:∀ x ∈ B,occ C (absy x)=0:=fun x hx => by
   apply List.count_eq_zero.2
   intro hm
   obtain ⟨c,hc,hs⟩:=List.mem_flatMap.1 hm
   obtain ⟨q1,q2,q3⟩:=lev_wt hS h1 c (s2.subset (by simp [hc]))
   have hlt:=((isum_mem q3).2 _ hs).2 q2
   rw [<- q1,<- hS.wt x (hBS x hx)] at hlt
   have:=dle c (by simp [hc]) x (by simp [hx])
   omega
  have part:∀ x ∈ S,x ∈ A ∨ x ∈ B:=fun x hx => List.mem_append.1 (s1.symm.subset hx)
  refine ⟨fun x hx => ?_,fun x hx y hy hxy => ?_,?_⟩
  ·rw [hocc]
   rcases part x hx with h | h
   ·rw [hA1 x h];have:=ih1 x hx;omega
   ·rw [hB0 x h,hC0 x h];omega
  ·rw [hocc,hocc]
   rcases part y hy with hy' | hy'
   ·rcases part x hx with hx' | hx'
    ·rw [hA1 x hx',hA1 y hy'];have:=ih2 x hx y hy hxy;omega
    ·have:=dle y (by simp [hy']) x (by simp [hx']);omega
   ·rw [hB0 y hy',hC0 y hy'];omega
  ·have e1:tot (fun x => 2 ^ (k+1) - 2 ^ (k+1 - occ T (absy x))) S=tot (fun x => 2 ^ (k+1) - 2 ^ (k+1 - occ T (absy x))) A+tot (fun x => 2 ^ (k+1) - 2 ^ (k+1 - occ T (absy x))) B:=by
    rw [<- tot_append];exact tot_perm s1.symm
   have e2:tot (fun x => 2 ^ k - 2 ^ (k - occ C (absy x))) S=tot (fun x => 2 ^ k - 2 ^ (k - occ C (absy x))) A+tot (fun x => 2 ^ k - 2 ^ (k - occ C (absy x))) B:=by
    rw [<- tot_append];exact tot_perm s1.symm
   have e3:tot (fun x => 2 ^ (k+1) - 2 ^ (k+1 - occ T (absy x))) B=0:=by
    rw [tot_congr (g:=fun _ => 0) (fun x hx => by rw [hocc,hB0 x hx,hC0 x hx];simp),tot_zero]
   have e4:tot (fun x => 2 ^ k - 2 ^ (k - occ C (absy x))) B=0:=by
    rw [tot_congr (g:=fun _ => 0) (fun x hx => by rw [hC0 x hx];simp),tot_zero]
   have e5:tot (fun x => 2 ^ (k+1) - 2 ^ (k+1 - occ T (absy x))) A=tot (fun x => 2 ^ k+(2 ^ k - 2 ^ (k - occ C (absy x)))) A:=by
    refine tot_congr fun x hx => ?_
    rw [hocc,hA1 x hx]
    have h5:=ih1 x (hAS x hx)
    have h6:k+1 - (1+occ C (absy x))=k - occ C (absy x):=by omega
    have h7:2 ^ (k - occ C (absy x))<=2 ^ k:=Nat.pow_le_pow_right (by omega) (by omega)
    have h8:2 ^ (k+1)=2 ^ k*2:=Nat.pow_succ ..
    rw [h6]
    omega
   rw [tot_add] at e5
   have e6:I.length=A.length+C.length:=by have:=s3.length_eq;simpa using this
   rw [e1,e3,e5]
   have e7:tot (fun x => 2 ^ k - 2 ^ (k - occ C (absy x))) A=2 ^ k*C.length:=by omega
   rw [e7,<- Nat.mul_add,Nat.add_zero,<- e6,hIl,Nat.pow_succ,Nat.mul_assoc]
end Go.Proofs.YthdmjmnkhlpnnabGreatDoor
