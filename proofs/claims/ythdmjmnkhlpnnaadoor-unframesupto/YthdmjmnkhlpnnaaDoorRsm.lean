/-
  Plain: the sum of some lengths, and which codes may be.
-/
import Derived.Test.YthdmjmnkhlpnnaaDoorRfu
import Derived.Test.YthdmjmnkhlpnnaaDoorDec
namespace Go.Proofs.YthdmjmnkhlpnnaaDoor
open Go.RowKit

theorem rcnt_cons (z : Int) (zs : List Int) (n : Nat) (h : 1 ≤ n) : cnt (z :: zs) n = cnt zs n + (if z = (n : Int) then 1 else 0) := by
  unfold cnt
  rw [if_neg (by omega), if_neg (by omega), List.count_cons]
  by_cases e : z = (n : Int)
  · simp [e]
  · simp [e]
theorem rplc_cons (z : Int) (zs : List Int) (n : Nat) : plc (z :: zs) n = plc zs n + (if 1 ≤ z ∧ z ≤ (n : Int) then 1 else 0) := by
  induction n with
  | zero =>
    rw [if_neg (by omega)]
    rfl
  | succ n ih =>
    rw [plc, plc, ih, rcnt_cons z zs (n + 1) (by omega)]
    by_cases h1 : z = ((n + 1 : Nat) : Int)
    · rw [if_neg (by omega), if_pos h1, if_pos (by omega)]; omega
    · by_cases h2 : 1 ≤ z ∧ z ≤ (n : Int)
      · rw [if_pos h2, if_neg h1, if_pos (by omega)]; omega
      · rw [if_neg h2, if_neg h1, if_neg (by omega)]; omega
theorem sm_plc (zs : List Int) (hok : zs.any nl = false) : cnt zs 1 ≤ plc zs 15 ∧ (plc zs 15 : Int) ≤ sm zs ∧ (plc zs 15 = 0 → sm zs = 0) ∧ (plc zs 15 = 1 → cnt zs 1 = 1 → sm zs = 1) ∧ (sm zs = 1 → cnt zs 1 = 1) := by
  induction zs with
  | nil => exact ⟨by decide, by decide, fun _ => rfl, fun h => absurd h (by decide), fun h => absurd h (by decide)⟩
  | cons z zs ih =>
    simp only [List.any_cons, Bool.or_eq_false_iff] at hok
    have h := ih hok.2
    have h1 := hok.1
    simp [nl] at h1
    rw [rplc_cons, rcnt_cons z zs 1 (by omega), sm]
    by_cases e0 : z = 0
    · rw [if_neg (by omega), if_neg (by omega), e0]
      omega
    · rw [if_pos (show 1 ≤ z ∧ z ≤ ((15 : Nat) : Int) by omega)]
      by_cases e1 : z = ((1 : Nat) : Int)
      · rw [if_pos e1]
        omega
      · rw [if_neg e1]
        omega
/-- whole or alone: as the document's reader asks it of letters -/
theorem mayL_sm (zs : List Int) (hok : zs.any nl = false) : mayL zs = (decide (wt zs = 32768) || decide (sm zs = 1)) := by
  have h := sm_plc zs hok
  unfold mayL
  congr 1
  rw [← Bool.decide_and]
  apply decide_eq_decide.2
  constructor
  · rintro ⟨a, b⟩; exact h.2.2.2.1 a b
  · intro a
    have := h.2.2.2.2 a
    omega
/-- whole, alone or empty: as it asks it of steps -/
theorem mayS_sm (zs : List Int) (hok : zs.any nl = false) : mayS zs = (decide (wt zs = 32768) || decide (sm zs ≤ 1)) := by
  have h := sm_plc zs hok
  have hb := sm_bound zs hok
  unfold mayS
  rw [mayL_sm zs hok, Bool.or_assoc]
  congr 1
  rw [← Bool.decide_or]
  apply decide_eq_decide.2
  constructor
  · rintro (a | a)
    · omega
    · have := h.2.2.1 a; omega
  · intro a
    omega
end Go.Proofs.YthdmjmnkhlpnnaaDoor
