/-
  A code of the document's own: baleref.coder.
-/
import Derived.Test.YthdmjmnkhlpnnaaDoorRfn
import Derived.Test.YthdmjmnkhlpnnaaDoorLnw
namespace Go.Proofs.YthdmjmnkhlpnnaaDoor
open Go.RowKit

/-- the cells of a code: the first bits, how many, how many ahead, at each length; the symbols -/
def cd4 (f m a : Nat → Int) (sv : Value) : Array Value := arr f ++ arr m ++ arr a ++ #[sv]
theorem cd4_size (f m a : Nat → Int) (sv : Value) : (cd4 f m a sv).size = 49 := by simp [cd4, arr_size]
theorem cd4_f (f m a : Nat → Int) (sv : Value) (j : Nat) (h : j < 16) : (cd4 f m a sv)[j]? = some (.int .i64 (f j)) := by
  unfold cd4
  rw [Array.getElem?_append_left (by simp [arr_size]; omega), Array.getElem?_append_left (by simp [arr_size]; omega), Array.getElem?_append_left (by simp [arr_size]; omega)]
  exact arr_get f j h
theorem cd4_m (f m a : Nat → Int) (sv : Value) (j : Nat) (h : j < 16) : (cd4 f m a sv)[16 + j]? = some (.int .i64 (m j)) := by
  unfold cd4
  rw [Array.getElem?_append_left (by simp [arr_size]; omega), Array.getElem?_append_left (by simp [arr_size]; omega), Array.getElem?_append_right (by simp [arr_size]), arr_size, Nat.add_sub_cancel_left]
  exact arr_get m j h
theorem cd4_a (f m a : Nat → Int) (sv : Value) (j : Nat) (h : j < 16) : (cd4 f m a sv)[32 + j]? = some (.int .i64 (a j)) := by
  unfold cd4
  rw [Array.getElem?_append_left (by simp [arr_size]; omega), Array.getElem?_append_right (by simp [arr_size])]
  rw [show 32 + j - (arr f ++ arr m).size = j by simp [arr_size]]
  exact arr_get a j h
theorem cd4_s (f m a : Nat → Int) (sv : Value) : (cd4 f m a sv)[48]? = some sv := by
  unfold cd4
  rw [Array.getElem?_append_right (by simp [arr_size])]
  simp [arr_size]
theorem cd4_big (f m a : Nat → Int) (sv : Value) (i : Nat) (h : 49 ≤ i) : (cd4 f m a sv)[i]? = none := Array.getElem?_eq_none (by rw [cd4_size]; exact h)
theorem cd4_split (i : Nat) : i < 16 ∨ (∃ j, j < 16 ∧ i = 16 + j) ∨ (∃ j, j < 16 ∧ i = 32 + j) ∨ i = 48 ∨ 49 ≤ i := by
  rcases Nat.lt_or_ge i 16 with h | h
  · exact .inl h
  rcases Nat.lt_or_ge i 32 with h2 | h2
  · exact .inr (.inl ⟨i - 16, by omega, by omega⟩)
  rcases Nat.lt_or_ge i 48 with h3 | h3
  · exact .inr (.inr (.inl ⟨i - 32, by omega, by omega⟩))
  · by_cases h4 : i = 48
    · exact .inr (.inr (.inr (.inl h4)))
    · exact .inr (.inr (.inr (.inr (by omega))))
theorem cd4_ext {f' m' a' : Nat → Int} {sv' : Value} {cs : Array Value} (hs : cs.size = 49) (hf : ∀ j, j < 16 → cs[j]? = some (.int .i64 (f' j))) (hm : ∀ j, j < 16 → cs[16 + j]? = some (.int .i64 (m' j))) (ha : ∀ j, j < 16 → cs[32 + j]? = some (.int .i64 (a' j))) (hv : cs[48]? = some sv') : cs = cd4 f' m' a' sv' := by
  apply Array.ext_getElem?
  intro i
  rcases cd4_split i with h | ⟨j, h, rfl⟩ | ⟨j, h, rfl⟩ | rfl | h
  · rw [hf i h, cd4_f _ _ _ _ _ h]
  · rw [hm j h, cd4_m _ _ _ _ _ h]
  · rw [ha j h, cd4_a _ _ _ _ _ h]
  · rw [hv, cd4_s]
  · rw [cd4_big _ _ _ _ _ h, Array.getElem?_eq_none (by omega)]
theorem cd4_setf (f m a : Nat → Int) (sv : Value) (j : Nat) (hj : j < 16) (z : Int) : (cd4 f m a sv).setIfInBounds j (.int .i64 z) = cd4 (fun i => if i = j then z else f i) m a sv := by
  refine cd4_ext (by rw [Array.size_setIfInBounds, cd4_size]) (fun i hi => ?_) (fun i hi => ?_) (fun i hi => ?_) ?_ <;> rw [Array.getElem?_setIfInBounds]
  · by_cases e : j = i
    · subst e; simp [cd4_size]; omega
    · rw [if_neg e, cd4_f _ _ _ _ _ hi, if_neg (by omega)]
  · rw [if_neg (by omega), cd4_m _ _ _ _ _ hi]
  · rw [if_neg (by omega), cd4_a _ _ _ _ _ hi]
  · rw [if_neg (by omega), cd4_s]
theorem cd4_setm (f m a : Nat → Int) (sv : Value) (j : Nat) (hj : j < 16) (z : Int) : (cd4 f m a sv).setIfInBounds (16 + j) (.int .i64 z) = cd4 f (fun i => if i = j then z else m i) a sv := by
  refine cd4_ext (by rw [Array.size_setIfInBounds, cd4_size]) (fun i hi => ?_) (fun i hi => ?_) (fun i hi => ?_) ?_ <;> rw [Array.getElem?_setIfInBounds]
  · rw [if_neg (by omega), cd4_f _ _ _ _ _ hi]
  · by_cases e : j = i
    · subst e; simp [cd4_size]; omega
    · rw [if_neg (by omega), cd4_m _ _ _ _ _ hi, if_neg (by omega)]
  · rw [if_neg (by omega), cd4_a _ _ _ _ _ hi]
  · rw [if_neg (by omega), cd4_s]
theorem cd4_seta (f m a : Nat → Int) (sv : Value) (j : Nat) (hj : j < 16) (z : Int) : (cd4 f m a sv).setIfInBounds (32 + j) (.int .i64 z) = cd4 f m (fun i => if i = j then z else a i) sv := by
  refine cd4_ext (by rw [Array.size_setIfInBounds, cd4_size]) (fun i hi => ?_) (fun i hi => ?_) (fun i hi => ?_) ?_ <;> rw [Array.getElem?_setIfInBounds]
  · rw [if_neg (by omega), cd4_f _ _ _ _ _ hi]
  · rw [if_neg (by omega), cd4_m _ _ _ _ _ hi]
  · by_cases e : j = i
    · subst e; simp [cd4_size]; omega
    · rw [if_neg (by omega), cd4_a _ _ _ _ _ hi, if_neg (by omega)]
  · rw [if_neg (by omega), cd4_s]
theorem cd4_sets (f m a : Nat → Int) (sv sw : Value) : (cd4 f m a sv).setIfInBounds 48 sw = cd4 f m a sw := by
  refine cd4_ext (by rw [Array.size_setIfInBounds, cd4_size]) (fun i hi => ?_) (fun i hi => ?_) (fun i hi => ?_) ?_ <;> rw [Array.getElem?_setIfInBounds]
  · rw [if_neg (by omega), cd4_f _ _ _ _ _ hi]
  · rw [if_neg (by omega), cd4_m _ _ _ _ _ hi]
  · rw [if_neg (by omega), cd4_a _ _ _ _ _ hi]
  · rw [if_pos rfl, if_pos (by rw [cd4_size]; omega)]
theorem cd4_congr {f m a f' m' a' : Nat → Int} {sv : Value} (hf : ∀ j, j < 16 → f j = f' j) (hm : ∀ j, j < 16 → m j = m' j) (ha : ∀ j, j < 16 → a j = a' j) : cd4 f m a sv = cd4 f' m' a' sv := by
  unfold cd4
  rw [arr_congr hf, arr_congr hm, arr_congr ha]
/-- block b is such a code -/
def Cd4 (w : World) (b : Nat) (f m a : Nat → Int) (sv : Value) : Prop := w.heap[b]? = some (.cells (cd4 f m a sv) 47 (0, 0))
theorem Cd4.cell {w : World} {b : Nat} {f m a : Nat → Int} {sv : Value} (h : Cd4 w b f m a sv) :
    (∀ j, j < 16 → w.cell? ⟨b, j, none⟩ = some (.int .i64 (f j))) ∧ (∀ j, j < 16 → w.cell? ⟨b, 16 + j, none⟩ = some (.int .i64 (m j))) ∧ (∀ j, j < 16 → w.cell? ⟨b, 32 + j, none⟩ = some (.int .i64 (a j))) ∧ w.cell? ⟨b, 48, none⟩ = some sv ∧ ∀ j, w.frozen? ⟨b, j, none⟩ = false := by
  have h' : w.heap[b]? = some (.cells (cd4 f m a sv) 47 (0, 0)) := h
  have e := fun j => cell_of_row w b j _ 47 (0, 0) h'
  exact ⟨fun j hj => by rw [e]; exact cd4_f _ _ _ _ _ hj, fun j hj => by rw [e]; exact cd4_m _ _ _ _ _ hj, fun j hj => by rw [e]; exact cd4_a _ _ _ _ _ hj, by rw [e]; exact cd4_s _ _ _ _, fun j => by simp [World.frozen?, h']⟩
theorem Cd4.setf {w : World} {b : Nat} {f m a : Nat → Int} {sv : Value} (h : Cd4 w b f m a sv) (j : Nat) (hj : j < 16) (z : Int) : Cd4 (w.setCell ⟨b, j, none⟩ (.int .i64 z)) b (fun i => if i = j then z else f i) m a sv := by
  unfold Cd4; rw [blk_set h, cd4_setf _ _ _ _ _ hj]
theorem Cd4.setm {w : World} {b : Nat} {f m a : Nat → Int} {sv : Value} (h : Cd4 w b f m a sv) (j : Nat) (hj : j < 16) (z : Int) : Cd4 (w.setCell ⟨b, 16 + j, none⟩ (.int .i64 z)) b f (fun i => if i = j then z else m i) a sv := by
  unfold Cd4; rw [blk_set h, cd4_setm _ _ _ _ _ hj]
theorem Cd4.seta {w : World} {b : Nat} {f m a : Nat → Int} {sv : Value} (h : Cd4 w b f m a sv) (j : Nat) (hj : j < 16) (z : Int) : Cd4 (w.setCell ⟨b, 32 + j, none⟩ (.int .i64 z)) b f m (fun i => if i = j then z else a i) sv := by
  unfold Cd4; rw [blk_set h, cd4_seta _ _ _ _ _ hj]
theorem Cd4.sets {w : World} {b : Nat} {f m a : Nat → Int} {sv : Value} (h : Cd4 w b f m a sv) (sw : Value) : Cd4 (w.setCell ⟨b, 48, none⟩ sw) b f m a sw := by
  unfold Cd4; rw [blk_set h, cd4_sets]
theorem Cd4.congr {w : World} {b : Nat} {f m a f' m' a' : Nat → Int} {sv : Value} (h : Cd4 w b f m a sv) (hf : ∀ j, j < 16 → f j = f' j) (hm : ∀ j, j < 16 → m j = m' j) (ha : ∀ j, j < 16 → a j = a' j) : Cd4 w b f' m' a' sv := by
  unfold Cd4; rw [← cd4_congr hf hm ha]; exact h
/-- the symbols of lengths up to n, in order -/
def st (zs : List Int) : Nat → List Int
  | 0 => []
  | n + 1 => st zs n ++ sa zs (n + 1) zs.length
theorem st_length (zs : List Int) (n : Nat) : (st zs n).length = plc zs n := by
  induction n with
  | zero => rfl
  | succ n ih =>
    rw [st, List.length_append, ih, sa_length zs (n + 1) zs.length (by omega) (Nat.le_refl _), List.take_of_length_le (Nat.le_refl _)]
    rfl
theorem st_get (zs : List Int) (N n i : Nat) (hn : 0 < n) (hN : n ≤ N) (hi : i < cnt zs n) : (st zs N).getD (plc zs (n - 1) + i) 0 = sy zs n i := by
  induction N with
  | zero => omega
  | succ N ih =>
    have hl := sa_length zs n zs.length hn (Nat.le_refl _)
    rw [List.take_of_length_le (Nat.le_refl _)] at hl
    rw [st, List.getD_eq_getElem?_getD]
    by_cases e : n = N + 1
    · subst e
      rw [List.getElem?_append_right (by rw [st_length]; simp), st_length]
      simp only [Nat.add_sub_cancel, Nat.add_sub_cancel_left]
      rfl
    · have h1 := plc_pred zs n hn
      have h2 := plc_mono zs (show n ≤ N by omega)
      rw [List.getElem?_append_left (by rw [st_length]; omega), ← List.getD_eq_getElem?_getD]
      exact ih (by omega)
end Go.Proofs.YthdmjmnkhlpnnaaDoor
