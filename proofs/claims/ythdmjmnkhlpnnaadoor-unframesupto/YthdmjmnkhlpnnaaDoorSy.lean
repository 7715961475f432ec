/-
  Plain: the symbols of a code in the order of their bits, and how one is found bit by bit.
-/
import Derived.Test.YthdmjmnkhlpnnaaDoorBits
namespace Go.Proofs.YthdmjmnkhlpnnaaDoor
open Go.RowKit

/-- those of the first k symbols that have length n -/
def sa (zs : List Int) (n : Nat) : Nat → List Int
  | 0 => []
  | k + 1 => sa zs n k ++ (if zs.getD k 0 = (n : Int) then [(k : Int)] else [])
theorem sa_length (zs : List Int) (n k : Nat) (hn : 0 < n) (hk : k ≤ zs.length) : (sa zs n k).length = cnt (zs.take k) n := by
  induction k with
  | zero => simp [sa, cnt]
  | succ k ih =>
    rw [take_snocI zs k (by omega)]
    by_cases h0 : 0 < zs.getD k 0
    · have e := cnt_snoc (zs.take k) (zs.getD k 0) h0 n
      simp only [sa, List.length_append, ih (by omega)]
      by_cases hz : zs.getD k 0 = (n : Int)
      · rw [if_pos (by omega)] at e; rw [if_pos hz]; simp only [List.length_cons, List.length_nil]; omega
      · rw [if_neg (by omega)] at e; rw [if_neg hz]; simp only [List.length_nil]; omega
    · rw [cnt_skip _ _ (by omega)]
      simp only [sa, List.length_append, ih (by omega)]
      rw [if_neg (by omega)]; simp only [List.length_nil]; omega
theorem sa_prefix (zs : List Int) (n k m : Nat) (h : k ≤ m) : ∃ r, sa zs n m = sa zs n k ++ r := by
  induction m with
  | zero => obtain rfl : k = 0 := by omega
            exact ⟨[], by simp⟩
  | succ m ih =>
    by_cases e : k = m + 1
    · subst e; exact ⟨[], by simp⟩
    · obtain ⟨r, hr⟩ := ih (by omega)
      exact ⟨r ++ (if zs.getD m 0 = (n : Int) then [(m : Int)] else []), by rw [sa, hr, List.append_assoc]⟩
/-- the symbol in a place among those of a length -/
def sy (zs : List Int) (n i : Nat) : Int := (sa zs n zs.length).getD i 0
theorem sy_at (zs : List Int) (n k : Nat) (hk : k < zs.length) (hn : 0 < n) (h : zs.getD k 0 = (n : Int)) : sy zs n (cnt (zs.take k) n) = k := by
  obtain ⟨r, hr⟩ := sa_prefix zs n (k + 1) zs.length (by omega)
  unfold sy
  rw [hr, sa, if_pos h, ← sa_length zs n k hn (by omega)]
  simp
theorem sa_mem (zs : List Int) (n k : Nat) (z : Int) (h : z ∈ sa zs n k) : 0 ≤ z ∧ z < k := by
  induction k with
  | zero => simp [sa] at h
  | succ k ih =>
    simp only [sa, List.mem_append] at h
    rcases h with h | h
    · have := ih h; omega
    · split at h
      · simp at h; omega
      · simp at h
theorem sy_lt (zs : List Int) (n i : Nat) (hn : 0 < n) (hi : i < cnt zs n) : 0 ≤ sy zs n i ∧ sy zs n i < zs.length := by
  have hl := sa_length zs n zs.length hn (Nat.le_refl _)
  rw [List.take_of_length_le (Nat.le_refl _)] at hl
  unfold sy
  rw [List.getD_eq_getElem?_getD, List.getElem?_eq_getElem (by omega)]
  exact sa_mem zs n zs.length _ (List.getElem_mem _)

/-- how many symbols have a length up to n -/
def plc (zs : List Int) : Nat → Nat
  | 0 => 0
  | n + 1 => plc zs n + cnt zs (n + 1)
theorem plc_mono (zs : List Int) {a b : Nat} (h : a ≤ b) : plc zs a ≤ plc zs b := by
  induction b with
  | zero => obtain rfl : a = 0 := by omega
            exact Nat.le_refl _
  | succ b ih =>
    by_cases e : a = b + 1
    · subst e; exact Nat.le_refl _
    · have := ih (by omega); simp only [plc]; omega
theorem cnt_cons' (z : Int) (l : List Int) (j : Nat) : cnt (z :: l) j = cnt l j + if 0 < z ∧ z = (j : Int) then 1 else 0 := by
  unfold cnt
  by_cases h0 : j = 0
  · subst h0; simp; omega
  · simp only [h0, if_false, List.count_cons]
    by_cases hz : z = (j : Int)
    · subst hz; rw [if_pos (by simp), if_pos (by omega)]
    · rw [if_neg (by simp [hz]), if_neg (by omega)]
theorem plc_cons (z : Int) (l : List Int) (n : Nat) : plc (z :: l) n = plc l n + if 0 < z ∧ z ≤ (n : Int) then 1 else 0 := by
  induction n with
  | zero => simp only [plc]; rw [if_neg (by omega)]
  | succ n ih =>
    simp only [plc, ih, cnt_cons']
    by_cases h1 : 0 < z ∧ z ≤ (n : Int)
    · rw [if_pos h1, if_neg (by omega), if_pos (by omega)]; omega
    · rw [if_neg h1]
      by_cases h2 : 0 < z ∧ z = ((n + 1 : Nat) : Int)
      · rw [if_pos h2, if_pos (by omega)]; omega
      · rw [if_neg h2, if_neg (by omega)]; omega
theorem plc_le (zs : List Int) (n : Nat) : plc zs n ≤ zs.length := by
  induction zs with
  | nil => induction n with
    | zero => simp [plc]
    | succ n ih => simp [plc, cnt] at ih ⊢; omega
  | cons z l ih => rw [plc_cons]; simp; split <;> omega

/-- what a reading tells: a number and where it ends, or what is wrong -/
inductive Rs where
  | ok (v : Int) (p : Nat)
  | no (e : Nat)
/-- a symbol, from length n on, where 'ab' is how far the bits are above the first of that length -/
def symF (zs : List Int) (s : ByteArray) : Nat → Nat → Nat → Nat → Rs
  | 0, _, _, _ => .no 4
  | f + 1, n, ab, p =>
    if p < 8 * s.size then
      if 2 * ab + bitAt s p < cnt zs (n + 1) then .ok (sy zs (n + 1) (2 * ab + bitAt s p)) (p + 1)
      else symF zs s f (n + 1) (2 * ab + bitAt s p - cnt zs (n + 1)) (p + 1)
    else .no 1
/-- the next symbol of a code -/
def sym (zs : List Int) (s : ByteArray) (p : Nat) : Rs := symF zs s 15 0 0 p
theorem symF_ok (zs : List Int) (s : ByteArray) (f n ab p : Nat) (v : Int) (q : Nat) (h : symF zs s f n ab p = .ok v q) : p < q ∧ q ≤ 8 * s.size ∧ 0 ≤ v ∧ v < zs.length := by
  induction f generalizing n ab p with
  | zero => simp [symF] at h
  | succ f ih =>
    rw [symF] at h
    split at h
    · split at h
      · rename_i hc
        injection h with h1 h2
        have := sy_lt zs (n + 1) _ (by omega) hc
        omega
      · have := ih _ _ _ h; omega
    · simp at h
theorem symF_no (zs : List Int) (s : ByteArray) (f n ab p : Nat) (e : Nat) (h : symF zs s f n ab p = .no e) : e = 1 ∨ e = 4 := by
  induction f generalizing n ab p with
  | zero => simp [symF] at h; omega
  | succ f ih =>
    rw [symF] at h
    split at h
    · split at h
      · simp at h
      · exact ih _ _ _ h
    · simp at h; omega
theorem sym_ok {zs : List Int} {s : ByteArray} {p : Nat} {v : Int} {q : Nat} (h : sym zs s p = .ok v q) : p < q ∧ q ≤ 8 * s.size ∧ 0 ≤ v ∧ v < zs.length := symF_ok _ _ _ _ _ _ _ _ h
end Go.Proofs.YthdmjmnkhlpnnaaDoor
