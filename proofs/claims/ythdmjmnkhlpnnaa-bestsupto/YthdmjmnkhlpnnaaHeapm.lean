/-
  The heap of parcels in memory; what lighter, swap and firstChild do.
-/
import Derived.Test.YthdmjmnkhlpnnaaReads
import Derived.Deep.QuietTactic
import Derived.BigQuiet
import Derived.BigRegion
import Derived.Deep.RegionHeld3
namespace Go.Proofs.Ythdmjmnkhlpnnaa
open Go.RowKit

/-- a parcel: where its symbols lie, what it weighs, which they are -/
structure Pc where
  ao : Option Addr
  c : Nat
  wt : Int
  sy : List Int
def Pc.zero : Pc := ⟨none, 0, 0, []⟩
def pcell (p : Pc) : List Value := [.int .i64 p.wt, .slice p.ao p.sy.length p.c]
def pagg (p : Pc) : Value := .agg #[.int .i64 p.wt, .slice p.ao p.sy.length p.c]
def flat (ps : List Pc) : List Value := ps.flatMap pcell
theorem flat_cons (p : Pc) (ps : List Pc) : flat (p :: ps) = .int .i64 p.wt :: .slice p.ao p.sy.length p.c :: flat ps := rfl
theorem flat_append (ps qs : List Pc) : flat (ps ++ qs) = flat ps ++ flat qs := by simp [flat]
theorem flat_length (ps : List Pc) : (flat ps).length = ps.length * 2 := by
  induction ps with
  | nil => rfl
  | cons p ps ih => rw [flat_cons]; simp [ih]; omega
theorem flat_get (ps : List Pc) (i : Nat) (h : i < ps.length) : (flat ps)[i * 2]? = some (.int .i64 (ps.getD i Pc.zero).wt) ∧ (flat ps)[i * 2 + 1]? = some (.slice (ps.getD i Pc.zero).ao (ps.getD i Pc.zero).sy.length (ps.getD i Pc.zero).c) := by
  induction ps generalizing i with
  | nil => simp at h
  | cons p ps ih =>
    cases i with
    | zero => exact ⟨rfl, rfl⟩
    | succ i =>
      have := ih i (by simpa using h)
      rw [flat_cons, show (i + 1) * 2 = i * 2 + 1 + 1 by omega]
      exact this
theorem flat_set (ps : List Pc) (i : Nat) (p : Pc) : ((flat ps).set (i * 2) (.int .i64 p.wt)).set (i * 2 + 1) (.slice p.ao p.sy.length p.c) = flat (ps.set i p) := by
  induction ps generalizing i with
  | nil => simp [flat]
  | cons q ps ih =>
    cases i with
    | zero => rfl
    | succ i =>
      rw [flat_cons, show (i + 1) * 2 = i * 2 + 1 + 1 by omega]
      simp only [List.set_cons_succ]
      rw [ih i, flat_cons]
theorem flat_take (ps : List Pc) (k : Nat) : (flat ps).take (k * 2) = flat (ps.take k) := by
  induction ps generalizing k with
  | nil => simp [flat]
  | cons q ps ih =>
    cases k with
    | zero => rfl
    | succ k =>
      rw [flat_cons, show (k + 1) * 2 = k * 2 + 1 + 1 by omega]
      simp only [List.take_succ_cons]
      rw [ih k, flat_cons]

/-- block hb is a heap, its things ps -/
structure Heap (w : World) (hb : Nat) (iv : Value) (ps : List Pc) : Prop where
  blk : w.heap[hb]? = some (.cells #[iv, .func (.func 46) #[] #[]] 73 (0, 0))
  own : w.ownsRow (hb + 1) 58 2 iv ps.length (flat ps)

section
variable {w w' : World} {hb : Nat} {iv : Value} {ps : List Pc}
theorem Heap.lt (h : Heap w hb iv ps) : hb < w.heap.size := (Array.getElem?_eq_some_iff.1 h.blk).1
theorem Heap.cell0 (h : Heap w hb iv ps) : w.cell? ⟨hb, 0, none⟩ = some iv := by rw [cell_of_row w hb 0 _ 73 (0, 0) h.blk]; rfl
theorem Heap.cell1 (h : Heap w hb iv ps) : w.cell? ⟨hb, 1, none⟩ = some (.func (.func 46) #[] #[]) := by rw [cell_of_row w hb 1 _ 73 (0, 0) h.blk]; rfl
theorem Heap.free (h : Heap w hb iv ps) (j : Nat) : w.frozen? ⟨hb, j, none⟩ = false := by
  have h' := h.blk
  simp [World.frozen?, h']
/-- where there is something, the things lie at a block's head -/
theorem Heap.at (h : Heap w hb iv ps) (h0 : 0 < ps.length) : ∃ g cap cur, iv = .slice (some ⟨g, 0, none⟩) ps.length cap ∧ hb < g ∧ w.heap[g]? = some (.cells cur 58 (0, 0)) ∧ ps.length ≤ cap ∧ cap ≤ maxLen ∧ cur.size = cap * 2 ∧ cur.toList.take (ps.length * 2) = flat ps := by
  rcases h.own.2 with ⟨_, e⟩ | ⟨g, cap, cur, e, hb', hg, hnc, hcm, hcs, ht⟩
  · omega
  · exact ⟨g, cap, cur, e, by omega, hg, hnc, hcm, hcs, ht⟩
theorem row_get {g : Nat} {cur : Array Value} (hg : w.heap[g]? = some (.cells cur 58 (0, 0))) (ht : cur.toList.take (ps.length * 2) = flat ps) {i : Nat} (hi : i < ps.length) :
    w.cell? ⟨g, i * 2, none⟩ = some (.int .i64 (ps.getD i Pc.zero).wt) ∧ w.cell? ⟨g, i * 2 + 1, none⟩ = some (.slice (ps.getD i Pc.zero).ao (ps.getD i Pc.zero).sy.length (ps.getD i Pc.zero).c) ∧ w.frozen? ⟨g, i * 2, none⟩ = false ∧ w.frozen? ⟨g, i * 2 + 1, none⟩ = false := by
  obtain ⟨h1, h2⟩ := flat_get ps i hi
  rw [← ht, List.getElem?_take, if_pos (by omega)] at h1 h2
  refine ⟨?_, ?_, by simp [World.frozen?, hg], by simp [World.frozen?, hg]⟩
  · rw [cell_of_row w g _ cur 58 (0, 0) hg]; simpa using h1
  · rw [cell_of_row w g _ cur 58 (0, 0) hg]; simpa using h2
/-- a thing is written -/
theorem Heap.put (h : Heap w hb iv ps) {g cap : Nat} (e : iv = .slice (some ⟨g, 0, none⟩) ps.length cap) (i : Nat) (p : Pc) :
    Heap ((w.setCell ⟨g, i * 2, none⟩ (.int .i64 p.wt)).setCell ⟨g, i * 2 + 1, none⟩ (.slice p.ao p.sy.length p.c)) hb iv (ps.set i p) := by
  rcases h.own.2 with ⟨e2, _⟩ | ⟨g', cap', cur, e2, hb', hg, hnc, hcm, hcs, ht⟩
  · rw [e] at e2; cases e2
  · rw [e] at e2
    injection e2 with e3 e4 e5
    injection e3 with e3
    injection e3 with e3
    subst e3 e5
    have h1 := setRow_heap w g cur (cur.setIfInBounds (i * 2) (.int .i64 p.wt)) 58 _ hg
    have e1 := setCell_eq_setRow w g (i * 2) cur 58 (0, 0) (.int .i64 p.wt) hg
    refine ⟨?_, ?_⟩
    · rw [Below.heap_setCell _ _ _ _ (by simp; omega), Below.heap_setCell _ _ _ _ (by simp; omega)]
      exact h.blk
    · refine ⟨by rw [flat_length], .inr ⟨g, cap, (cur.setIfInBounds (i * 2) (.int .i64 p.wt)).setIfInBounds (i * 2 + 1) (.slice p.ao p.sy.length p.c), by rw [e]; simp, hb', ?_, by simpa using hnc, hcm, by simpa using hcs, ?_⟩⟩
      · rw [e1, setCell_eq_setRow _ g (i * 2 + 1) _ 58 (0, 0) _ h1]
        exact setRow_heap _ g _ _ 58 _ h1
      · rw [Array.toList_setIfInBounds, Array.toList_setIfInBounds, List.length_set, List.take_set, List.take_set, ht, flat_set]
/-- what keeps the heap's blocks keeps it -/
theorem Heap.kept (h : Heap w hb iv ps) (h1 : w'.heap[hb]? = w.heap[hb]?) (h2 : ∀ k, iv.ownBlock = some k → w'.heap[k]? = w.heap[k]?) : Heap w' hb iv ps := by
  refine ⟨by rw [h1]; exact h.blk, h.own.1, ?_⟩
  rcases h.own.2 with hn | ⟨g, cap, cur, e, hb', hg, rest⟩
  · exact .inl hn
  · exact .inr ⟨g, cap, cur, e, hb', by rw [h2 g (by rw [e]; rfl)]; exact hg, rest⟩
theorem Heap.below (h : Heap w hb iv ps) (hbel : Below w.heap.size w w') : Heap w' hb iv ps :=
  h.kept (hbel.block hb h.lt) fun k hk => hbel.block k (h.own.lt k hk).2
end

set_option maxHeartbeats 400000 in
theorem lighter_any (x y : Int) (v u : Value) (w : World) :
    Calls Try.prog 46 #[.agg #[.int .i64 x, v], .agg #[.int .i64 y, u]] w fun e w' => e = .returned (.bool (decide (x < y))) ∧ Below w.heap.size w w' := by
  go_enter Try.func46, Try.ntmps46
  go_wp2
  go_ret
  exact ⟨rfl, ((Below.refl _ _).alloc (Nat.le_refl _) _).alloc (by simp) _⟩

set_option maxHeartbeats 800000 in
theorem swap_cells (w : World) (hb g n cap i j : Nat) (x y : Int) (a1 a2 : Option Addr) (n1 n2 c1 c2 : Nat)
    (h0 : w.cell? ⟨hb, 0, none⟩ = some (.slice (some ⟨g, 0, none⟩) n cap)) (hi : i < n) (hj : j < n) (hij : i * 2 + 1 < j * 2 ∨ j * 2 + 1 < i * 2)
    (ci : w.cell? ⟨g, i * 2, none⟩ = some (.int .i64 x)) (di : w.cell? ⟨g, i * 2 + 1, none⟩ = some (.slice a1 n1 c1))
    (cj : w.cell? ⟨g, j * 2, none⟩ = some (.int .i64 y)) (dj : w.cell? ⟨g, j * 2 + 1, none⟩ = some (.slice a2 n2 c2))
    (fi : w.frozen? ⟨g, i * 2, none⟩ = false) (ei : w.frozen? ⟨g, i * 2 + 1, none⟩ = false) (fj : w.frozen? ⟨g, j * 2, none⟩ = false) (ej : w.frozen? ⟨g, j * 2 + 1, none⟩ = false) :
    Calls Try.prog 52 #[.pointer (some ⟨hb, 0, none⟩), .int .i64 i, .int .i64 j] w fun e w' => e = .returned (.tuple #[]) ∧
      w' = ((((w.setCell ⟨g, i * 2, none⟩ (.int .i64 y)).setCell ⟨g, i * 2 + 1, none⟩ (.slice a2 n2 c2)).setCell ⟨g, j * 2, none⟩ (.int .i64 x)).setCell ⟨g, j * 2 + 1, none⟩ (.slice a1 n1 c1)).drew := by
  rcases hij with hij | hij
  all_goals
    go_enter Try.func52, Try.ntmps52
    go_wp2
    go_region
    go_wp2
    go_end0
    exact ⟨rfl, rfl⟩
end Go.Proofs.Ythdmjmnkhlpnnaa
