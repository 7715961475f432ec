/-
  The weight of all that come ahead, in units of a symbol's own length, is the symbol's number.
-/
import Derived.Test.YthdmjmnkhlpnnaaDoorBits
namespace Go.Proofs.YthdmjmnkhlpnnaaDoor

/-- the weight of those that are shorter than m -/
def low (m : Nat) : List Int → Nat
  | [] => 0
  | z :: r => (if 0 < z ∧ z < (m : Int) then 2 ^ (15 - z.toNat) else 0) + low m r
theorem low_append (m : Nat) (l r : List Int) : low m (l ++ r) = low m l + low m r := by
  induction l with
  | nil => simp [low]
  | cons z l ih => simp only [List.cons_append, low, ih]; omega
theorem low_zero (l : List Int) : low 0 l = 0 := by
  induction l with
  | nil => rfl
  | cons z l ih => simp only [low, ih]; rw [if_neg (by omega)]
theorem cnt_cons (z : Int) (l : List Int) (j : Nat) : cnt (z :: l) j = cnt l j + if 0 < z ∧ z = (j : Int) then 1 else 0 := by
  unfold cnt
  by_cases h0 : j = 0
  · subst h0; simp; omega
  · rw [if_neg h0, if_neg h0, List.count_cons]
    by_cases hz : z = (j : Int)
    · subst hz; simp; omega
    · simp [hz]
theorem low_succ (l : List Int) (m : Nat) : low (m + 1) l = low m l + cnt l m * 2 ^ (15 - m) := by
  induction l with
  | nil => simp [low, cnt]
  | cons z l ih =>
    rw [cnt_cons, Nat.add_mul]
    simp only [low, ih]
    by_cases h1 : 0 < z ∧ z < (m : Int)
    · rw [if_pos h1, if_pos (by omega), if_neg (by omega)]; omega
    · rw [if_neg h1]
      by_cases h2 : 0 < z ∧ z = (m : Int)
      · have : z.toNat = m := by omega
        rw [if_pos (by omega), if_pos h2, this]; omega
      · rw [if_neg (by omega), if_neg h2]; omega
theorem low_eq (l : List Int) (m : Nat) (h : m ≤ 15) : low m l = fst l m * 2 ^ (15 - m) := by
  induction m with
  | zero => rw [low_zero]; simp [fst]
  | succ m ih =>
    have e : 15 - m = (15 - (m + 1)) + 1 := by omega
    rw [low_succ, ih (by omega), ← Nat.add_mul, fst, e, Nat.pow_succ, Nat.mul_comm 2, Nat.mul_assoc, Nat.mul_comm 2]

/-- what symbol k weighs ahead of symbol i -/
def aw (zs : List Int) (i k : Nat) : Nat := if 0 < zs.getD k 0 ∧ (zs.getD k 0 < zs.getD i 0 ∨ zs.getD k 0 = zs.getD i 0 ∧ k < i) then 2 ^ (15 - (zs.getD k 0).toNat) else 0
def ahd (zs : List Int) (i : Nat) : Nat → Nat
  | 0 => 0
  | k + 1 => ahd zs i k + aw zs i k
theorem aw_le (zs : List Int) (i k : Nat) : aw zs i k ≤ 16384 := by
  unfold aw
  split
  · have : 2 ^ (15 - (zs.getD k 0).toNat) ≤ 2 ^ 14 := Nat.pow_le_pow_right (by omega) (by omega)
    omega
  · omega
theorem ahd_le (zs : List Int) (i k : Nat) : ahd zs i k ≤ 16384 * k := by
  induction k with
  | zero => simp [ahd]
  | succ k ih => have := aw_le zs i k; simp only [ahd]; omega
theorem cnt_snoc' (l : List Int) (z : Int) (j : Nat) : cnt (l ++ [z]) j = cnt l j + if 0 < z ∧ z = (j : Int) then 1 else 0 := by
  induction l with
  | nil => rw [List.nil_append, cnt_cons]
  | cons y l ih => rw [List.cons_append, cnt_cons, cnt_cons, ih]; omega
theorem ahd_eq (zs : List Int) (i : Nat) (hi : 0 < zs.getD i 0) (k : Nat) (hk : k ≤ zs.length) :
    ahd zs i k = low (zs.getD i 0).toNat (zs.take k) + cnt (zs.take (min k i)) (zs.getD i 0).toNat * 2 ^ (15 - (zs.getD i 0).toNat) := by
  induction k with
  | zero => simp [ahd, low, cnt]
  | succ k ih =>
    have hlt : k < zs.length := by omega
    rw [ahd, ih (by omega), take_snocI zs k hlt, low_append]
    simp only [low]
    unfold aw
    generalize hy : zs.getD k 0 = y
    generalize hx : zs.getD i 0 = x at *
    have ex : ((x.toNat : Nat) : Int) = x := by omega
    rw [ex]
    by_cases hki : k < i
    · rw [show min (k + 1) i = k + 1 by omega, show min k i = k by omega, take_snocI zs k hlt, hy, cnt_snoc', ex, Nat.add_mul]
      by_cases h1 : 0 < y ∧ y < x
      · rw [if_pos (by omega), if_pos h1, if_neg (by omega)]; omega
      · by_cases h2 : 0 < y ∧ y = x
        · have : y.toNat = x.toNat := by omega
          rw [if_pos (by omega), if_neg h1, if_pos h2, this]; omega
        · rw [if_neg (by omega), if_neg h1, if_neg h2]; omega
    · rw [show min (k + 1) i = i by omega, show min k i = i by omega]
      by_cases h1 : 0 < y ∧ y < x
      · rw [if_pos (by omega), if_pos h1]; omega
      · rw [if_neg (by omega), if_neg h1]; omega
theorem ahd_bt (zs : List Int) (i : Nat) (hi : i < zs.length) (h0 : 0 < zs.getD i 0) (h15 : zs.getD i 0 ≤ 15) : ahd zs i zs.length / 2 ^ (15 - (zs.getD i 0).toNat) = bt zs i := by
  rw [ahd_eq zs i h0 zs.length (Nat.le_refl _), List.take_length, low_eq zs _ (by omega), show min zs.length i = i by omega, ← Nat.add_mul, Nat.mul_div_cancel _ (Nat.two_pow_pos _)]
  unfold bt
  rw [if_pos h0]
end Go.Proofs.YthdmjmnkhlpnnaaDoor
