import Derived.Test.YthdmjmnkhlpnnabGreatDoorZ02
import Derived.Deep.QuietTactic
import Derived.BigQuiet
import Derived.BigRegion
import Derived.Deep.RegionHeld3
namespace Go.Proofs.YthdmjmnkhlpnnabGreatDoor
open Go.RowKit
structure Pc where
 ao:Option Addr
 c:Nat
 wt:Int
 sy:List Int
def Pc.zero:Pc:=⟨none,0,0,[]⟩
def pcell (p:Pc):List Value:=[.int .i64 p.wt,.slice p.ao p.sy.length p.c]
def pagg (p:Pc):Value:=.agg #[.int .i64 p.wt,.slice p.ao p.sy.length p.c]
def flat (ps:List Pc):List Value:=ps.flatMap pcell
theorem flat_cons (p:Pc) (ps:List Pc):flat (p :: ps) = .int .i64 p.wt :: .slice p.ao p.sy.length p.c :: flat ps:=rfl
theorem flat_append (ps qs:List Pc):flat (ps ++ qs)=flat ps ++ flat qs:=by simp [flat]
theorem flat_length (ps:List Pc):(flat ps).length=ps.length*2:=by
 induction ps with
 | nil => rfl
 | cons p ps ih => rw [flat_cons];simp [ih];omega
theorem flat_get (ps:List Pc) (i:Nat) (h:i < ps.length):(flat ps)[i*2]? = some (.int .i64 (ps.getD i Pc.zero).wt) /\ (flat ps)[i*2+1]? = some (.slice (ps.getD i Pc.zero).ao (ps.getD i Pc.zero).sy.length (ps.getD i Pc.zero).c):=by
 induction ps generalizing i with
 | nil => simp at h
 | cons p ps ih =>
  cases i with
  | zero => exact ⟨rfl,rfl⟩
  | succ i =>
   have:=ih i (by simpa using h)
   rw [flat_cons,show (i+1)*2=i*2+1+1 by omega]
   exact this
theorem flat_set (ps:List Pc) (i:Nat) (p:Pc):((flat ps).set (i*2) (.int .i64 p.wt)).set (i*2+1) (.slice p.ao p.sy.length p.c)=flat (ps.set i p):=by
 induction ps generalizing i with
 | nil => simp [flat]
 | cons q ps ih =>
  cases i with
  | zero => rfl
  | succ i =>
   rw [flat_cons,show (i+1)*2=i*2+1+1 by omega]
   simp only [List.set_cons_succ]
   rw [ih i,flat_cons]
theorem flat_take (ps:List Pc) (k:Nat):(flat ps).take (k*2)=flat (ps.take k):=by
 induction ps generalizing k with
 | nil => simp [flat]
 | cons q ps ih =>
  cases k with
  | zero => rfl
  | succ k =>
   rw [flat_cons,show (k+1)*2=k*2+1+1 by omega]
   simp only [List.take_succ_cons]
   rw [ih k,flat_cons]
structure Heap (w:World) (hb:Nat) (iv:Value) (ps:List Pc):Prop where
 blk:w.heap[hb]? = some (.cells #[iv,.func (.func 190) #[] #[]] 258 (0,0))
 own:w.ownsRow (hb+1) 206 2 iv ps.length (flat ps)
section
variable {w w':World} {hb:Nat} {iv:Value} {ps:List Pc}
theorem Heap.lt (h:Heap w hb iv ps):hb < w.heap.size:=(Array.getElem?_eq_some_iff.1 h.blk).1
theorem Heap.cell0 (h:Heap w hb iv ps):w.cell? ⟨hb,0,none⟩=some iv:=by rw [cell_of_row w hb 0 _ 258 (0,0) h.blk];rfl
theorem Heap.cell1 (h:Heap w hb iv ps):w.cell? ⟨hb,1,none⟩=some (.func (.func 190) #[] #[]):=by rw [cell_of_row w hb 1 _ 258 (0,0) h.blk];rfl
theorem Heap.free (h:Heap w hb iv ps) (j:Nat):w.frozen? ⟨hb,j,none⟩=false:=by
 have h':=h.blk
 simp [World.frozen?,h']
theorem Heap.at (h:Heap w hb iv ps) (h0:0 < ps.length):∃ g cap cur,iv = .slice (some ⟨g,0,none⟩) ps.length cap /\ hb < g /\ w.heap[g]? = some (.cells cur 206 (0,0)) /\ ps.length<=cap /\ cap<=maxLen /\ cur.size=cap*2 /\ cur.toList.take (ps.length*2)=flat ps:=by
 rcases h.own.2 with ⟨_,e⟩ | ⟨g,cap,cur,e,hb',hg,hnc,hcm,hcs,ht⟩
 ·omega
 ·exact ⟨g,cap,cur,e,by omega,hg,hnc,hcm,hcs,ht⟩
theorem row_get {g:Nat} {cur:Array Value} (hg:w.heap[g]? = some (.cells cur 206 (0,0))) (ht:cur.toList.take (ps.length*2)=flat ps) {i:Nat} (hi:i < ps.length) :
  w.cell? ⟨g,i*2,none⟩=some (.int .i64 (ps.getD i Pc.zero).wt) /\ w.cell? ⟨g,i*2+1,none⟩=some (.slice (ps.getD i Pc.zero).ao (ps.getD i Pc.zero).sy.length (ps.getD i Pc.zero).c) /\ w.frozen? ⟨g,i*2,none⟩=false /\ w.frozen? ⟨g,i*2+1,none⟩=false:=by
 obtain ⟨h1,h2⟩:=flat_get ps i hi
 rw [<- ht,List.getElem?_take,if_pos (by omega)] at h1 h2
 refine ⟨?_,?_,by simp [World.frozen?,hg],by simp [World.frozen?,hg]⟩
 ·rw [cell_of_row w g _ cur 206 (0,0) hg];simpa using h1
 ·rw [cell_of_row w g _ cur 206 (0,0) hg];simpa using h2
theorem Heap.put (h:Heap w hb iv ps) {g cap:Nat} (e:iv = .slice (some ⟨g,0,none⟩) ps.length cap) (i:Nat) (p:Pc) :
  Heap ((w.setCell ⟨g,i*2,none⟩ (.int .i64 p.wt)).setCell ⟨g,i*2+1,none⟩ (.slice p.ao p.sy.length p.c)) hb iv (ps.set i p):=by
 rcases h.own.2 with ⟨e2,_⟩ | ⟨g',cap',cur,e2,hb',hg,hnc,hcm,hcs,ht⟩
 ·rw [e] at e2;cases e2
 ·rw [e] at e2
  injection e2 with e3 e4 e5
  injection e3 with e3
  injection e3 with e3
  subst e3 e5
  have h1:=setRow_heap w g cur (cur.setIfInBounds (i*2) (.int .i64 p.wt)) 206 _ hg
  have e1:=setCell_eq_setRow w g (i*2) cur 206 (0,0) (.int .i64 p.wt) hg
  refine ⟨?_,?_⟩
  ·rw [Below.heap_setCell _ _ _ _ (by simp;omega),Below.heap_setCell _ _ _ _ (by simp;omega)]
   exact h.blk
  ·refine ⟨by rw [flat_length],.inr ⟨g,cap,(cur.setIfInBounds (i*2) (.int .i64 p.wt)).setIfInBounds (i*2+1) (.slice p.ao p.sy.length p.c),by rw [e];simp,hb',?_,by simpa using hnc,hcm,by simpa using hcs,?_⟩⟩
   ·rw [e1,setCell_eq_setRow _ g (i*2+1) _ 206 (0,0) _ h1]
    exact setRow_heap _ g _ _ 206 _ h1
   ·rw [Array.toList_setIfInBounds,Array.toList_setIfInBounds,List.length_set,List.take_set,List.take_set,ht,flat_set]
theorem Heap.kept (h:Heap w hb iv ps) (h1:w'.heap[hb]? = w.heap[hb]?) (h2:∀ k,iv.ownBlock=some k->w'.heap[k]? = w.heap[k]?):Heap w' hb iv ps:=by
 refine ⟨by rw [h1];exact h.blk,h.own.1,?_⟩
 rcases h.own.2 with hn | ⟨g,cap,cur,e,hb',hg,rest⟩
 ·exact .inl hn
 ·exact .inr ⟨g,cap,cur,e,hb',by rw [h2 g (by rw [e];rfl)];exact hg,rest⟩
theorem Heap.below (h:Heap w hb iv ps) (hbel:Below w.heap.size w w'):Heap w' hb iv ps :=
 h.kept (hbel.block hb h.lt) fun k hk => hbel.block k (h.own.lt k hk).2
end
set_option maxHeartbeats 400000 in
theorem lighter_any (x y:Int) (v u:Value) (w:World) :
  Calls Tryz.prog 190 #[.agg #[.int .i64 x,v],.agg #[.int .i64 y,u]] w fun e w' => e = .returned (.bool (decide (x < y))) /\ Below w.heap.size w w':=by
 go_enter Tryz.func190,Tryz.ntmps190
 go_wp2
 go_ret
 exact ⟨rfl,((Below.refl _ _).alloc (Nat.le_refl _) _).alloc (by simp) _⟩
set_option maxHeartbeats 800000 in
theorem swap_cells (w:World) (hb g n cap i j:Nat) (x y:Int) (a1 a2:Option Addr) (n1 n2 c1 c2:Nat)
  (h0:w.cell? ⟨hb,0,none⟩=some (.slice (some ⟨g,0,none⟩) n cap)) (hi:i < n) (hj:j < n) (hij:i*2+1 < j*2 ∨ j*2+1 < i*2)
  (ci:w.cell? ⟨g,i*2,none⟩=some (.int .i64 x)) (di:w.cell? ⟨g,i*2+1,none⟩=some (.slice a1 n1 c1))
  (cj:w.cell? ⟨g,j*2,none⟩=some (.int .i64 y)) (dj:w.cell? ⟨g,j*2+1,none⟩=some (.slice a2 n2 c2))
  (fi:w.frozen? ⟨g,i*2,none⟩=false) (ei:w.frozen? ⟨g,i*2+1,none⟩=false) (fj:w.frozen? ⟨g,j*2,none⟩=false) (ej:w.frozen? ⟨g,j*2+1,none⟩=false) :
  Calls Tryz.prog 204 #[.pointer (some ⟨hb,0,none⟩),.int .i64 i,.int .i64 j] w fun e w' => e = .returned (.tuple #[]) /\
   w'=((((w.setCell ⟨g,i*2,none⟩ (.int .i64 y)).setCell ⟨g,i*2+1,none⟩ (.slice a2 n2 c2)).setCell ⟨g,j*2,none⟩ (.int .i64 x)).setCell ⟨g,j*2+1,none⟩ (.slice a1 n1 c1)).drew:=by
 rcases hij with hij | hij
 all_goals
  go_enter Tryz.func204,Tryz.ntmps204
  go_wp2
  go_region
  go_wp2
  go_end0
  exact ⟨rfl,rfl⟩
end Go.Proofs.YthdmjmnkhlpnnabGreatDoor
namespace Go.Proofs.YthdmjmnkhlpnnabGreatDoor
def wtAt (ps:List Pc) (i:Nat):Int:=(ps.getD i Pc.zero).wt
def swp (ps:List Pc) (i j:Nat):List Pc:=(ps.set i (ps.getD j Pc.zero)).set j (ps.getD i Pc.zero)
theorem swp_length (ps:List Pc) (i j:Nat):(swp ps i j).length=ps.length:=by simp [swp]
theorem swp_at (ps:List Pc) (i j k:Nat) (hi:i < ps.length) (hj:j < ps.length):wtAt (swp ps i j) k=if k=j then wtAt ps i else if k=i then wtAt ps j else wtAt ps k:=by
 unfold swp wtAt
 by_cases h1:k=j
 ·subst h1;simp [hj]
 ·rw [if_neg h1]
  by_cases h2:k=i
  ·subst h2;simp [hi,Ne.symm h1]
  ·simp [Ne.symm h1,Ne.symm h2,h2]
theorem swp_perm (ps:List Pc) (i j:Nat) (hi:i < ps.length) (hj:j < ps.length):(swp ps i j).Perm ps:=by
 have h:=Array.swap_perm (xs:=ps.toArray) (i:=i) (j:=j) (by simpa using hi) (by simpa using hj)
 have e:(ps.toArray.swap i j (by simpa using hi) (by simpa using hj)).toList=swp ps i j:=by
  simp [Array.swap,swp,hi,hj]
 have h2:=h.toList
 rw [e] at h2
 exact h2
def HO (ps:List Pc):Prop:=∀ k,0 < k->k < ps.length->wtAt ps ((k - 1) / 2)<=wtAt ps k
def UpInv (ps:List Pc) (a:Nat):Prop :=
 (∀ k,0 < k->k < ps.length->k ≠ a->wtAt ps ((k - 1) / 2)<=wtAt ps k) /\ (∀ k,0 < k->k < ps.length->(k - 1) / 2=a->0 < a->wtAt ps ((a - 1) / 2)<=wtAt ps k)
def DownInv (ps:List Pc) (a:Nat):Prop :=
 (∀ k,0 < k->k < ps.length->(k - 1) / 2 ≠ a->wtAt ps ((k - 1) / 2)<=wtAt ps k) /\ (∀ k,0 < k->k < ps.length->(k - 1) / 2=a->0 < a->wtAt ps ((a - 1) / 2)<=wtAt ps k)
def FC (ps:List Pc) (i c:Nat):Prop:=(c=2*i+1 ∨ c=2*i+2) /\ (2*i+1 < ps.length->c < ps.length /\ ∀ j,(j=2*i+1 ∨ j=2*i+2)->j < ps.length->wtAt ps c<=wtAt ps j)
theorem up_step {ps:List Pc} {a:Nat} (h:UpInv ps a) (h0:0 < a) (ha:a < ps.length) (hl:wtAt ps a < wtAt ps ((a - 1) / 2)):UpInv (swp ps a ((a - 1) / 2)) ((a - 1) / 2):=by
 obtain ⟨h1,h2⟩:=h
 have hp:(a - 1) / 2 < a:=by omega
 have hpl:(a - 1) / 2 < ps.length:=by omega
 generalize hpa:(a - 1) / 2=p at *
 refine ⟨fun k k0 kl kp => ?_,fun k k0 kl kp pp => ?_⟩
 ·rw [swp_length] at kl
  rw [swp_at ps a p _ ha hpl,swp_at ps a p k ha hpl,if_neg kp]
  by_cases ka:k=a
  ·subst ka
   rw [hpa,if_pos rfl,if_pos rfl];omega
  ·rw [if_neg ka]
   have hk:=h1 k k0 kl ka
   by_cases c1:(k - 1) / 2=p
   ·rw [if_pos c1];rw [c1] at hk;omega
   ·rw [if_neg c1]
    by_cases c2:(k - 1) / 2=a
    ·rw [if_pos c2];exact h2 k k0 kl c2 h0
    ·rw [if_neg c2];exact hk
 ·rw [swp_length] at kl
  have hgp:=h1 p pp (by omega) (by omega)
  rw [swp_at ps a p _ ha hpl,swp_at ps a p k ha hpl,if_neg (show (p - 1) / 2 ≠ p by omega),if_neg (show (p - 1) / 2 ≠ a by omega),if_neg (show k ≠ p by omega)]
  by_cases ka:k=a
  ·rw [if_pos ka];exact hgp
  ·rw [if_neg ka]
   have hk:=h1 k k0 kl ka
   rw [kp] at hk
   omega
theorem up_end0 {ps:List Pc} (h:UpInv ps 0):HO ps:=fun k k0 kl => h.1 k k0 kl (by omega)
theorem up_end {ps:List Pc} {a:Nat} (h:UpInv ps a) (hl:¬ wtAt ps a < wtAt ps ((a - 1) / 2)):HO ps:=fun k k0 kl => by
 by_cases ka:k=a
 ·subst ka;omega
 ·exact h.1 k k0 kl ka
theorem up_start {ps:List Pc} {p:Pc} (h:HO ps):UpInv (ps ++ [p]) ps.length:=by
 have e:∀ k,k < ps.length->wtAt (ps ++ [p]) k=wtAt ps k:=fun k hk => by simp [wtAt,hk,List.getElem?_append_left hk]
 refine ⟨fun k k0 kl ka => ?_,fun k k0 kl kp _ => ?_⟩
 ·simp at kl
  rw [e k (by omega),e _ (by omega)]
  exact h k k0 (by omega)
 ·simp at kl;omega
theorem down_step {ps:List Pc} {a c:Nat} (h:DownInv ps a) (hc:FC ps a c) (hcl:c < ps.length) (hl:wtAt ps c < wtAt ps a):DownInv (swp ps a c) c:=by
 obtain ⟨h1,h2⟩:=h
 obtain ⟨hc1,hc2⟩:=hc
 have ha:a < ps.length:=by omega
 have hmin:=(hc2 (by omega)).2
 have hpc:(c - 1) / 2=a:=by omega
 refine ⟨fun k k0 kl kp => ?_,fun k k0 kl kp cp => ?_⟩
 ·rw [swp_length] at kl
  rw [swp_at ps a c _ ha hcl,swp_at ps a c k ha hcl,if_neg kp]
  by_cases kc:k=c
  ·subst kc;rw [hpc,if_pos rfl,if_pos rfl];omega
  ·rw [if_neg kc]
   by_cases ka:k=a
   ·subst ka
    rw [if_pos rfl,if_neg (show (k - 1) / 2 ≠ k by omega)]
    exact h2 c (by omega) hcl hpc k0
   ·rw [if_neg ka]
    by_cases kpa:(k - 1) / 2=a
    ·rw [if_pos kpa]
     exact hmin k (by omega) kl
    ·rw [if_neg kpa];exact h1 k k0 kl kpa
 ·rw [swp_length] at kl
  have hk:=h1 k k0 kl (by omega)
  rw [kp] at hk
  rw [swp_at ps a c _ ha hcl,swp_at ps a c k ha hcl,hpc,if_neg (show a ≠ c by omega),if_pos rfl,if_neg (show k ≠ c by omega),if_neg (show k ≠ a by omega)]
  exact hk
theorem down_none {ps:List Pc} {a c:Nat} (h:DownInv ps a) (hc:FC ps a c) (hcl:¬ c < ps.length):HO ps:=fun k k0 kl => by
 have hn:¬ 2*a+1 < ps.length:=fun hh => hcl (hc.2 hh).1
 exact h.1 k k0 kl (by omega)
theorem down_end {ps:List Pc} {a c:Nat} (h:DownInv ps a) (hc:FC ps a c) (hcl:c < ps.length) (hl:¬ wtAt ps c < wtAt ps a):HO ps:=fun k k0 kl => by
 by_cases kp:(k - 1) / 2=a
 ·rw [kp]
  have hc1:=hc.1
  have:=(hc.2 (by omega)).2 k (by omega) kl
  omega
 ·exact h.1 k k0 kl kp
theorem ho_min {ps:List Pc} (h:HO ps) (k:Nat) (hk:k < ps.length):wtAt ps 0<=wtAt ps k:=by
 induction k using Nat.strongRecOn with
 | ind k ih =>
  by_cases k0:k=0
  ·subst k0;exact Int.le_refl _
  ·have h1:=ih ((k - 1) / 2) (by omega) (by omega)
   have h2:=h k (by omega) hk
   omega
theorem down_start {p q:Pc} {ps:List Pc} (h:HO (p :: ps)):DownInv (q :: ps) 0:=by
 have e:∀ k,0 < k->wtAt (q :: ps) k=wtAt (p :: ps) k:=fun k hk => by
  obtain ⟨k',rfl⟩:∃ k',k=k'+1:=⟨k - 1,by omega⟩
  rfl
 refine ⟨fun k k0 kl kp => ?_,fun k k0 kl kp hh => by omega⟩
 rw [e k k0,e _ (by omega)]
 exact h k k0 (by simpa using kl)
theorem ho_take {ps:List Pc} (h:HO ps) (n:Nat):HO (ps.take n):=fun k k0 kl => by
 have e:∀ j,j < n->wtAt (ps.take n) j=wtAt ps j:=fun j hj => by simp [wtAt,hj]
 simp at kl
 rw [e k (by omega),e _ (by omega)]
 exact h k k0 (by omega)
end Go.Proofs.YthdmjmnkhlpnnabGreatDoor
namespace Go.Proofs.YthdmjmnkhlpnnabGreatDoor
section
variable {α β:Type} (f:α->Int) (z:α)
def wz (A:List α) (k:Nat):Int:=f (A.getD k z)
def sz (A:List α) (i j:Nat):List α:=(A.set i (A.getD j z)).set j (A.getD i z)
inductive Rise:List α->Nat->List α->Prop
 | top (A:List α):Rise A 0 A
 | stop (A:List α) (k:Nat):0 < k -> ¬ wz f z A k < wz f z A ((k - 1) / 2)->Rise A k A
 | step (A:List α) (k:Nat) (B:List α):0 < k->wz f z A k < wz f z A ((k - 1) / 2)->Rise (sz z A k ((k - 1) / 2)) ((k - 1) / 2) B->Rise A k B
def fz (A:List α) (k:Nat):Nat:=if 2*k+2 < A.length /\ wz f z A (2*k+2) < wz f z A (2*k+1) then 2*k+2 else 2*k+1
inductive Sink:List α->Nat->List α->Prop
 | none (A:List α) (k:Nat):¬ fz f z A k < A.length->Sink A k A
 | stop (A:List α) (k:Nat):¬ wz f z A (fz f z A k) < wz f z A k->Sink A k A
 | step (A:List α) (k:Nat) (B:List α):fz f z A k < A.length->wz f z A (fz f z A k) < wz f z A k->Sink (sz z A k (fz f z A k)) (fz f z A k) B->Sink A k B
theorem Rise.det {A B C:List α} {k:Nat} (h:Rise f z A k B) (h':Rise f z A k C):B=C:=by
 induction h generalizing C with
 | top A =>
  cases h' with
  | top => rfl
  | stop _ _ h0 _ => omega
  | step _ _ _ h0 _ _ => omega
 | stop A k h0 h1 =>
  cases h' with
  | top => rfl
  | stop _ _ _ _ => rfl
  | step _ _ _ _ h2 _ => exact absurd h2 h1
 | step A k B h0 h1 _ ih =>
  cases h' with
  | top => omega
  | stop _ _ _ h2 => exact absurd h1 h2
  | step _ _ _ _ _ h3 => exact ih h3
theorem Sink.det {A B C:List α} {k:Nat} (h:Sink f z A k B) (h':Sink f z A k C):B=C:=by
 induction h generalizing C with
 | none A k h0 =>
  cases h' with
  | none _ _ _ => rfl
  | stop _ _ _ => rfl
  | step _ _ _ h1 _ _ => exact absurd h1 h0
 | stop A k h1 =>
  cases h' with
  | none _ _ _ => rfl
  | stop _ _ _ => rfl
  | step _ _ _ _ h2 _ => exact absurd h2 h1
 | step A k B h0 h1 _ ih =>
  cases h' with
  | none _ _ h2 => exact absurd h0 h2
  | stop _ _ h2 => exact absurd h1 h2
  | step _ _ _ _ _ h3 => exact ih h3
def Puts:List α->List α->List α->Prop
 | A,[],B => B=A
 | A,p :: L,B => ∃ M,Rise f z (A ++ [p]) A.length M /\ Puts M L B
theorem Puts.det {L:List α}:∀ {A B C:List α},Puts f z A L B->Puts f z A L C->B=C:=by
 induction L with
 | nil => intro A B C h h';exact Eq.trans h (Eq.symm h')
 | cons p L ih =>
  intro A B C h h'
  obtain ⟨M,h1,h2⟩:=h
  obtain ⟨M',h1',h2'⟩:=h'
  have e:=Rise.det f z h1 h1'
  subst e
  exact ih h2 h2'
theorem Puts.snoc {L:List α}:∀ {A B C:List α} {p:α},Puts f z A L B->Rise f z (B ++ [p]) B.length C->Puts f z A (L ++ [p]) C:=by
 induction L with
 | nil => intro A B C p h h';have e:B=A:=h;subst e;exact ⟨C,h',rfl⟩
 | cons q L ih =>
  intro A B C p h h'
  obtain ⟨M,h1,h2⟩:=h
  exact ⟨M,h1,ih h2 h'⟩
def Tak (A B:List α):Prop:=(A.length=1 /\ B=[]) ∨ (2<=A.length /\ Sink f z (((A.set 0 (A.getD (A.length - 1) z)).set (A.length - 1) z).take (A.length - 1)) 0 B)
theorem Tak.det {A B C:List α} (h:Tak f z A B) (h':Tak f z A C):B=C:=by
 rcases h with ⟨h0,h1⟩ | ⟨h0,h1⟩
 ·rcases h' with ⟨_,h2⟩ | ⟨h2,_⟩
  ·rw [h1,h2]
  ·omega
 ·rcases h' with ⟨h2,_⟩ | ⟨_,h2⟩
  ·omega
  ·exact Sink.det f z h1 h2
def Dr:List α->List α->List α->Prop
 | A,[],R => R=A
 | A,x :: L,R => x=A.getD 0 z /\ ∃ B,Tak f z A B /\ Dr B L R
theorem Dr.snoc {L:List α}:∀ {A R R':List α},Dr f z A L R->Tak f z R R'->Dr f z A (L ++ [R.getD 0 z]) R':=by
 induction L with
 | nil => intro A R R' h h';have e:R=A:=h;subst e;exact ⟨rfl,R',h',rfl⟩
 | cons q L ih =>
  intro A R R' h h'
  obtain ⟨e,B,h1,h2⟩:=h
  exact ⟨e,B,h1,ih h2 h'⟩
theorem Dr.det {L:List α}:∀ {A L':List α},Dr f z A L []->Dr f z A L' []->L=L':=by
 have nt:∀ {B:List α},¬ Tak f z [] B:=fun h => by rcases h with ⟨h,_⟩ | ⟨h,_⟩ <;> simp at h
 induction L with
 | nil =>
  intro A L' h h'
  have e:[]=A:=h
  subst e
  cases L' with
  | nil => rfl
  | cons x L' => obtain ⟨_,B,h1,_⟩:=h';exact absurd h1 nt
 | cons x L ih =>
  intro A L' h h'
  obtain ⟨e,B,h1,h2⟩:=h
  cases L' with
  | nil =>
   have e2:[]=A:=h'
   subst e2
   exact absurd h1 nt
  | cons x' L' =>
   obtain ⟨e',B',h1',h2'⟩:=h'
   have e3:=Tak.det f z h1 h1'
   subst e3
   rw [e,e',ih h2 h2']
def Made (L La:List α):Prop:=∃ H,Puts f z [] L H /\ Dr f z H La []
theorem Made.det {L La Lb:List α} (h:Made f z L La) (h':Made f z L Lb):La=Lb:=by
 obtain ⟨H,h1,h2⟩:=h
 obtain ⟨H',h1',h2'⟩:=h'
 have e:=Puts.det f z h1 h1'
 subst e
 exact Dr.det f z h2 h2'
end
section
variable {α β:Type} {f:α->Int} {z:α} {f':β->Int} {g:α->β}
theorem map_getD (A:List α) (k:Nat):(A.map g).getD k (g z)=g (A.getD k z):=by
 simp [List.getD,List.getElem?_map]
theorem wz_map (hf:∀ x,f' (g x)=f x) (A:List α) (k:Nat):wz f' (g z) (A.map g) k=wz f z A k:=by
 unfold wz;rw [map_getD,hf]
theorem sz_map (A:List α) (i j:Nat):sz (g z) (A.map g) i j=(sz z A i j).map g:=by
 unfold sz;rw [map_getD,map_getD,List.map_set,List.map_set]
theorem fz_map (hf:∀ x,f' (g x)=f x) (A:List α) (k:Nat):fz f' (g z) (A.map g) k=fz f z A k:=by
 unfold fz;rw [wz_map hf,wz_map hf,List.length_map]
theorem Rise.map (hf:∀ x,f' (g x)=f x) {A B:List α} {k:Nat} (h:Rise f z A k B):Rise f' (g z) (A.map g) k (B.map g):=by
 induction h with
 | top A => exact Rise.top _
 | stop A k h0 h1 => exact Rise.stop _ _ h0 (by rw [wz_map hf,wz_map hf];exact h1)
 | step A k B h0 h1 _ ih => exact Rise.step _ _ _ h0 (by rw [wz_map hf,wz_map hf];exact h1) (by rw [sz_map];exact ih)
theorem Sink.map (hf:∀ x,f' (g x)=f x) {A B:List α} {k:Nat} (h:Sink f z A k B):Sink f' (g z) (A.map g) k (B.map g):=by
 induction h with
 | none A k h0 => exact Sink.none _ _ (by rw [fz_map hf,List.length_map];exact h0)
 | stop A k h1 => exact Sink.stop _ _ (by rw [fz_map hf,wz_map hf,wz_map hf];exact h1)
 | step A k B h0 h1 _ ih => exact Sink.step _ _ _ (by rw [fz_map hf,List.length_map];exact h0) (by rw [fz_map hf,wz_map hf,wz_map hf];exact h1) (by rw [fz_map hf,sz_map];exact ih)
theorem Puts.map (hf:∀ x,f' (g x)=f x) {L:List α}:∀ {A B:List α},Puts f z A L B->Puts f' (g z) (A.map g) (L.map g) (B.map g):=by
 induction L with
 | nil => intro A B h;have e:B=A:=h;subst e;rfl
 | cons p L ih =>
  intro A B h
  obtain ⟨M,h1,h2⟩:=h
  refine ⟨M.map g,?_,ih h2⟩
  have:=h1.map (z:=z) hf
  rw [List.map_append] at this
  rw [List.length_map]
  exact this
theorem Tak.map (hf:∀ x,f' (g x)=f x) {A B:List α} (h:Tak f z A B):Tak f' (g z) (A.map g) (B.map g):=by
 rcases h with ⟨h0,h1⟩ | ⟨h0,h1⟩
 ·exact .inl ⟨by simpa using h0,by rw [h1];rfl⟩
 ·refine .inr ⟨by simpa using h0,?_⟩
  have:=h1.map (z:=z) hf
  rw [List.map_take,List.map_set,List.map_set] at this
  rw [List.length_map,map_getD]
  exact this
theorem Dr.map (hf:∀ x,f' (g x)=f x) {L:List α}:∀ {A R:List α},Dr f z A L R->Dr f' (g z) (A.map g) (L.map g) (R.map g):=by
 induction L with
 | nil => intro A R h;have e:R=A:=h;subst e;rfl
 | cons x L ih =>
  intro A R h
  obtain ⟨e,B,h1,h2⟩:=h
  exact ⟨by rw [map_getD,e],B.map g,h1.map hf,ih h2⟩
theorem Made.map (hf:∀ x,f' (g x)=f x) {L La:List α} (h:Made f z L La):Made f' (g z) (L.map g) (La.map g):=by
 obtain ⟨H,h1,h2⟩:=h
 exact ⟨H.map g,h1.map hf,h2.map hf⟩
end
abbrev RiseP:=Rise Pc.wt Pc.zero
abbrev SinkP:=Sink Pc.wt Pc.zero
abbrev fcP:=fz Pc.wt Pc.zero
abbrev PutsP:=Puts Pc.wt Pc.zero
abbrev TakP:=Tak Pc.wt Pc.zero
abbrev DrP:=Dr Pc.wt Pc.zero
abbrev MadeP:=Made Pc.wt Pc.zero
theorem wz_pc (ps:List Pc) (k:Nat):wz Pc.wt Pc.zero ps k=wtAt ps k:=rfl
end Go.Proofs.YthdmjmnkhlpnnabGreatDoor
