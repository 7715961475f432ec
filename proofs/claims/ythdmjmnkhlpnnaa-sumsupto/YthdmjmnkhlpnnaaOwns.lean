/-
  What Book.owns does: a list is written full with a mark, and it and three longer ones are noted in the book.
-/
import Derived.Test.YthdmjmnkhlpnnaaHands
namespace Go.Proofs.Ythdmjmnkhlpnnaa
open Go.RowKit

theorem cells_new (w : World) (cs : Array Value) (t : TypeId) : ∀ j u, cs.toList[j]? = some u → (w.alloc (.cells cs t)).cell? ((⟨w.heap.size, 0, none⟩ : Addr).add j) = some u := by
  intro j u hu
  have e : (⟨w.heap.size, 0, none⟩ : Addr).add j = ⟨w.heap.size, j, none⟩ := by unfold Addr.add; split <;> simp_all
  rw [e, cell_of_row _ w.heap.size j cs t (0, 0) (heap_alloc_new w _)]
  simpa using hu

/-- where a slice is not nil its row is full of one number -/
def RowOf (w : World) (va : Option Addr) (n : Nat) (m : Int) : Prop := ∀ b, va = some b → ∃ g, b = ⟨g, 0, none⟩ ∧ Row w g (List.replicate n m)
theorem RowOf.below {w w' : World} {va : Option Addr} {n : Nat} {m : Int} (h : RowOf w va n m) (hb : Below w.heap.size w w') : RowOf w' va n m := by
  intro b hv
  obtain ⟨g, e, hr⟩ := h b hv
  exact ⟨g, e, by unfold Row; rw [hb.block g hr.lt]; exact hr⟩
theorem RowOf.holds {w : World} {va : Option Addr} {n : Nat} {m : Int} (h : RowOf w va n m) : ∀ b, va = some b → ∀ j u, (List.replicate n (Value.int .i64 m))[j]? = some u → w.cell? (b.add j) = some u := by
  intro b hv j u hu
  obtain ⟨g, rfl, hr⟩ := h b hv
  have hs := seg_news hr.seg j u
  apply hs
  rw [List.map_replicate]
  exact hu

theorem grown_below {w w1 : World} {o : Obj} (h : (w.alloc o).grownBy w1 none) : Below w.heap.size w w1 :=
  ((Below.refl _ _).alloc (Nat.le_refl _) o).grown h (by simp) (fun k hk => by cases hk)

/-- what an append that grew owns is a list full of one number, in a new block -/
theorem mark_new {w w1 : World} {bk : Nat} {L : List (Value × Int)} {nx : Int} {lv mv gv : Value} {gs : List Int} {o : Value} {n B : Nat} {m : Int} (h : Book w bk L nx lv mv gv gs) (hB : w.heap.size ≤ B) (hn : n ≤ 400) (hown : w1.ownsRow B 3 1 o n (List.replicate n (Value.int .i64 m))) :
    Mark w1 bk mv gv o m ∧ ∀ k, o.ownBlock = some k → w.heap.size ≤ k := by
  refine ⟨?_, fun k hk => Nat.le_trans hB (hown.lt k hk).1⟩
  rcases hown.2 with ⟨e, _⟩ | ⟨g, cap, cur, e, hb, hh, hnc, hcm, hcs, htake⟩
  · exact .inl e
  · refine .inr ⟨g, n, cap, cur, e, by have := h.lt; omega, fun e2 => ?_, fun e2 => ?_, hn, hh, fun j hj => ?_⟩
    · have := (h.hm.lt g e2).2; omega
    · have := (h.hg.lt g e2).2; omega
    · have h1 : (cur.toList.take (n * 1))[j]? = some (Value.int .i64 m) := by rw [htake]; simp [hj]
      rw [List.getElem?_take] at h1
      split at h1
      · simpa using h1
      · cases h1

theorem mark_row {w : World} {bk : Nat} {mv gv : Value} {va : Option Addr} {n c : Nat} {m : Int} (hn : n ≤ 400) (hnone : va = none → n = 0 ∧ c = 0) (h : RowOf w va n m)
    (hf : ∀ g, va = some ⟨g, 0, none⟩ → bk < g ∧ mv.ownBlock ≠ some g ∧ gv.ownBlock ≠ some g) : Mark w bk mv gv (.slice va n c) m := by
  cases va with
  | none => obtain ⟨rfl, rfl⟩ := hnone rfl; exact .inl rfl
  | some b =>
    obtain ⟨g, rfl, hr⟩ := h b rfl
    obtain ⟨h1, h2, h3⟩ := hf g rfl
    exact .inr ⟨g, n, c, _, rfl, h1, h2, h3, hn, hr, fun j hj => by rw [nums_get _ j (by simpa using hj)]; simp [hj]⟩

section
variable {w3 w4 w6 : World} {bk : Nat} {L N : List (Value × Int)} {m : Int} {lv mv gv lv' mv' : Value} {gs : List Int} {A1 A2 : Obj}

theorem Book.mid (h : Book w3 bk L m lv mv gv gs) (hg1 : (w3.alloc A1).grownBy w4 lv.ownBlock) (v' : Value) :
    w4.heap[bk]? = w3.heap[bk]? ∧ (w4.setCell ⟨bk, 0, none⟩ v').heap[bk]? = some (.cells #[v', mv, .int .i64 m, gv] 29 (0, 0)) ∧ (w4.setCell ⟨bk, 0, none⟩ v').ownsRow (bk + 1) 3 1 mv L.length (L.map fun p => Value.int .i64 p.2) := by
  have hb : lv.ownBlock ≠ some bk := owns_type h.hl h.blk (by decide)
  have e1 : w4.heap[bk]? = w3.heap[bk]? := (hg1.block bk (by have := h.lt; simp; omega) (fun e => hb e.symm)).trans (Below.heap_alloc _ _ _ h.lt)
  refine ⟨e1, ?_, ?_⟩
  · rw [setCell_eq_setRow w4 bk 0 #[lv, mv, .int .i64 m, gv] 29 (0, 0) _ (e1.trans h.blk)]
    exact setRow_heap w4 bk #[lv, mv, .int .i64 m, gv] _ 29 _ (e1.trans h.blk)
  · refine owns_kept h.hm fun k hk => ?_
    have hlt := (h.hm.lt k hk).2
    have hne : k ≠ bk := fun e => owns_type h.hm h.blk (by decide) (e ▸ hk)
    rw [Below.heap_setCell _ _ _ _ hne, hg1.block k (by simp; omega) ?_, Below.heap_alloc _ _ _ hlt]
    intro e
    rcases h.hm.2 with ⟨rfl, _⟩ | ⟨g, cap, cur, rfl, _, hh, _⟩
    · simp [Value.ownBlock] at hk
    · simp [Value.ownBlock] at hk
      subst hk
      exact owns_type h.hl hh (by decide) e.symm

theorem Book.final (h : Book w3 bk L m lv mv gv gs) (hg1 : (w3.alloc A1).grownBy w4 lv.ownBlock)
    (hl' : w4.ownsRow (bk + 1) 27 1 lv' (L.length + N.length) (L.map Prod.fst ++ N.map Prod.fst)) (t1 : lv'.ownBlock = lv.ownBlock ∨ ∀ k, lv'.ownBlock = some k → (w3.alloc A1).heap.size ≤ k)
    (hg2 : ((w4.setCell ⟨bk, 0, none⟩ lv').alloc A2).grownBy w6 mv.ownBlock)
    (hm' : w6.ownsRow (bk + 1) 3 1 mv' (L.length + N.length) ((L.map fun p => Value.int .i64 p.2) ++ N.map fun p => Value.int .i64 p.2)) (t2 : mv'.ownBlock = mv.ownBlock ∨ ∀ k, mv'.ownBlock = some k → ((w4.setCell ⟨bk, 0, none⟩ lv').alloc A2).heap.size ≤ k)
    (hN : ∀ p ∈ N, Mark w3 bk mv gv p.1 p.2) :
    Book (w6.setCell ⟨bk, 1, none⟩ mv') bk (L ++ N) m lv' mv' gv gs ∧
      (∀ k, k < w3.heap.size → k ≠ bk → lv.ownBlock ≠ some k → mv.ownBlock ≠ some k → (w6.setCell ⟨bk, 1, none⟩ mv').heap[k]? = w3.heap[k]?) ∧
      (mv'.ownBlock = mv.ownBlock ∨ ∀ k, mv'.ownBlock = some k → w3.heap.size ≤ k) ∧ Below bk w3 (w6.setCell ⟨bk, 1, none⟩ mv') := by
  obtain ⟨e1, e2, hmv⟩ := h.mid hg1 lv'
  have hbm : mv.ownBlock ≠ some bk := owns_type h.hm h.blk (by decide)
  have s4 : w3.heap.size < w4.heap.size := by have := hg1.size; simp at this; omega
  have s5 : (w4.setCell ⟨bk, 0, none⟩ lv').heap.size = w4.heap.size := by simp [World.setCell]
  have s6 : w4.heap.size < w6.heap.size := by have := hg2.size; simp [World.setCell] at this; omega
  have f6 : w6.heap[bk]? = some (.cells #[lv', mv, .int .i64 m, gv] 29 (0, 0)) := by
    rw [hg2.block bk (by have := h.lt; rw [World.size_alloc, s5]; omega) (fun e => hbm e.symm), Below.heap_alloc _ _ _ (by rw [s5]; have := h.lt; omega)]
    exact e2
  have k6 : ∀ k, k < w4.heap.size → k ≠ bk → mv.ownBlock ≠ some k → (w6.setCell ⟨bk, 1, none⟩ mv').heap[k]? = w4.heap[k]? := fun k h1 h2 h3 => by
    rw [Below.heap_setCell _ _ _ _ h2, hg2.block k (by rw [World.size_alloc, s5]; omega) (fun e => h3 e.symm), Below.heap_alloc _ _ _ (by rw [s5]; exact h1), Below.heap_setCell _ _ _ _ h2]
  have k3 : ∀ k, k < w3.heap.size → k ≠ bk → lv.ownBlock ≠ some k → mv.ownBlock ≠ some k → (w6.setCell ⟨bk, 1, none⟩ mv').heap[k]? = w3.heap[k]? := fun k h1 h2 h3 h4 => by
    rw [k6 k (by omega) h2 h4, hg1.block k (by simp; omega) (fun e => h3 e.symm), Below.heap_alloc _ _ _ h1]
  have t2' : mv'.ownBlock = mv.ownBlock ∨ ∀ k, mv'.ownBlock = some k → w3.heap.size ≤ k := by
    rcases t2 with t | t
    · exact .inl t
    · refine .inr fun k hk => ?_
      have := t k hk
      rw [World.size_alloc, s5] at this
      omega
  have notm : ∀ k, k < w3.heap.size → mv.ownBlock ≠ some k → mv'.ownBlock ≠ some k := fun k h1 h2 h3 => by
    rcases t2' with e | e
    · exact h2 (e ▸ h3)
    · have := e k h3; omega
  have lnot : ∀ k, ∀ cur, w3.heap[k]? = some (.cells cur 3 (0, 0)) → lv.ownBlock ≠ some k := fun k cur hh => owns_type h.hl hh (by decide)
  have mk : ∀ p : Value × Int, Mark w3 bk mv gv p.1 p.2 → Mark (w6.setCell ⟨bk, 1, none⟩ mv') bk mv' gv p.1 p.2 := fun p hm => by
    refine (hm.kept fun k hk => k3 k (hm.lt hk) (fun e => hm.type h.blk (by decide) (e ▸ hk)) ?_ (hm.notmv k hk)).regard (fun g hg => notm g (hm.lt hg) (hm.notmv g hg)) hm.notgv
    rcases hm with e | ⟨g, n, c, cur, e, _, _, _, _, hh, _⟩
    · rw [e] at hk; simp [Value.ownBlock] at hk
    · rw [e] at hk; simp [Value.ownBlock] at hk; subst hk; exact lnot _ _ hh
  refine ⟨⟨?_, ?_, ?_, ?_, ?_, ?_⟩, k3, t2', ?_⟩
  · rw [setCell_eq_setRow w6 bk 1 #[lv', mv, .int .i64 m, gv] 29 (0, 0) _ f6]
    exact setRow_heap w6 bk #[lv', mv, .int .i64 m, gv] _ 29 _ f6
  · rw [List.length_append, List.map_append]
    refine owns_kept hl' fun k hk => k6 k (hl'.lt k hk).2 ?_ ?_
    · intro e
      subst e
      exact owns_type hl' (e1.trans h.blk) (by decide) hk
    · intro e
      rcases t1 with t | t
      · rw [t] at hk
        rcases h.hm.2 with ⟨e3, _⟩ | ⟨g, cap, cur, e3, _, hh, _⟩
        · rw [e3] at e; simp [Value.ownBlock] at e
        · rw [e3] at e; simp [Value.ownBlock] at e; subst e; exact lnot _ _ hh hk
      · have := t k hk; have := (h.hm.lt k e).2; simp at *; omega
  · rw [List.length_append, List.map_append]
    refine owns_kept hm' fun k hk => Below.heap_setCell _ _ _ _ ?_
    intro e
    simp at e
    subst e
    rcases t2' with t | t
    · exact hbm (t ▸ hk)
    · have := t k hk; have := h.lt; omega
  · refine owns_kept h.hg fun k hk => k3 k (h.hg.lt k hk).2 (fun e => owns_type h.hg h.blk (by decide) (e ▸ hk)) ?_ (fun e => h.dist k e hk)
    rcases h.hg.2 with ⟨e3, _⟩ | ⟨g, cap, cur, e3, _, hh, _⟩
    · rw [e3] at hk; simp [Value.ownBlock] at hk
    · rw [e3] at hk; simp [Value.ownBlock] at hk; subst hk; exact lnot _ _ hh
  · intro k hk e
    rcases t2' with t | t
    · exact h.dist k (t ▸ hk) e
    · have := t k hk; have := (h.hg.lt k e).2; omega
  · intro p hp
    rcases List.mem_append.1 hp with hp | hp
    · exact mk p (h.marks p hp)
    · exact mk p (hN p hp)
  · have b1 : Below bk w3 w4 := ((Below.refl _ _).alloc (Nat.le_of_lt h.lt) A1).grown hg1 (by have := h.lt; simp; omega) (fun k hk => by have := (h.hl.lt k hk).1; omega)
    exact (((b1.setCell (Nat.le_refl _) _).alloc (by rw [s5]; have := h.lt; omega) A2).grown hg2 (by rw [World.size_alloc, s5]; have := h.lt; omega) (fun k hk => by have := (h.hm.lt k hk).1; omega)).setCell (Nat.le_refl _) _
end
end Go.Proofs.Ythdmjmnkhlpnnaa
