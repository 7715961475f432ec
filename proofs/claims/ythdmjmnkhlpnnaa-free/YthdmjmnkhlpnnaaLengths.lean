/-
  What codes.Lengths and bale.Lengths answer: of the chosen parcels, how often each symbol is there; or why not.
-/
import Derived.Test.YthdmjmnkhlpnnaaChosen
namespace Go.Proofs.Ythdmjmnkhlpnnaa
open Go.RowKit

/-- is a number no count? -/
def nc (z : Int) : Bool := decide (z < 0) || decide (1000000000 < z)

set_option maxHeartbeats 400000 in
theorem isnc_any (z : Int) (w : World) : Calls Try.prog 31 #[.int .i64 z] w fun e w' => e = .returned (.bool (nc z)) ∧ w = w' := by
  by_cases h : z < 0
  · go_enter Try.func31, Try.ntmps31
    go_wp2
    go_ret
    exact ⟨ret_bool (by simp [nc, h]), rfl⟩
  · go_enter Try.func31, Try.ntmps31
    go_wp2
    all_goals go_ret
    all_goals refine ⟨ret_bool ?_, rfl⟩
    all_goals simp [nc]
    all_goals omega

set_option maxHeartbeats 400000 in
theorem indexc_any (ao : Option Addr) (c : Nat) (zs : List Int) (w : World) (hs : Seg w ao zs) (hm : zs.length ≤ maxLen) :
    Calls Try.prog 39 #[.slice ao zs.length c, .func (.func 31) #[] #[]] w fun e w' => (∃ r : Int, e = .returned (.int .i64 r) ∧ (decide (0 ≤ r) = zs.any nc)) ∧ w = w' := by
  unfold maxLen at hm
  go_enter Try.func39, Try.ntmps39
  go_wp2
  go_loop [8] (fun i => ∃ k : Nat, k ≤ zs.length ∧ i = .int .i64 k ∧ Hid ((zs.take k).any nc = false)) (fun i => zs.length - (intOf i).toNat)
  case atStart => exact ⟨0, by omega, rfl, rfl⟩
  case round =>
    obtain ⟨k, hk, rfl, HA⟩ := hrel
    by_cases hlt : k < zs.length
    · obtain ⟨b, off, rfl, hc⟩ := hs (by omega)
      obtain ⟨z, hz⟩ : ∃ z, z = zs.getD k 0 := ⟨_, rfl⟩
      have hcell : w.cell? ⟨b, off + k, none⟩ = some (.int .i64 z) := by rw [hz]; exact hc k hlt
      have HZ : Hid (z = zs.getD k 0) := hz
      clear hz hc hs
      by_cases hn : nc z = true
      · go_wp2_with (go_at_call 31; refine (isnc_any _ _).mono ?_; rintro e w' ⟨rfl, rfl⟩)
        go_ret
        refine ⟨⟨(k : Int), rfl, ?_⟩, rfl⟩
        have h1 : zs.any nc = true := List.any_eq_true.2 ⟨z, by rw [HZ.out]; simp [List.getD, hlt], hn⟩
        rw [h1]; simp
      · have hn' : nc z = false := by simpa using hn
        clear hn
        go_wp2_with (go_at_call 31; refine (isnc_any _ _).mono ?_; rintro e w' ⟨rfl, rfl⟩)
        go_round
        case rel => exact ⟨k + 1, by omega, by go_num, by show _ = _; rw [take_snocI zs k hlt, List.any_append, HA.out, ← HZ.out]; simp [hn']⟩
        case measure => simp [intOf]; omega
    · go_wp2
      go_ret
      refine ⟨⟨-1, rfl, ?_⟩, rfl⟩
      have := HA.out
      rw [List.take_of_length_le (by omega)] at this
      rw [this]; rfl

set_option maxHeartbeats 400000 in
theorem containsc_any (ao : Option Addr) (c : Nat) (zs : List Int) (w : World) (hs : Seg w ao zs) (hm : zs.length ≤ maxLen) :
    Calls Try.prog 30 #[.slice ao zs.length c, .func (.func 31) #[] #[]] w fun e w' => e = .returned (.bool (zs.any nc)) ∧ w = w' := by
  go_enter Try.func30, Try.ntmps30
  go_wp2_with (go_at_call 39; refine (indexc_any _ _ _ _ hs hm).mono ?_; rintro e w' ⟨⟨r, rfl, hr⟩, rfl⟩)
  go_ret
  exact ⟨ret_bool rfl, rfl⟩

/-- how often each symbol is there -/
def lens (n : Nat) (ys : List Int) : List Int := (List.range n).map fun i : Nat => ((ys.count (i : Int) : Nat) : Int)
theorem lens_length (n : Nat) (ys : List Int) : (lens n ys).length = n := by simp [lens]
theorem lens_nil (n : Nat) : lens n [] = List.replicate n 0 := by
  apply List.ext_getElem?
  intro i
  by_cases h : i < n
  · simp [lens, h]
  · simp [lens, h]
theorem lens_snoc (n : Nat) (ys : List Int) (s : Nat) (hs : s < n) : (lens n ys).set s ((ys.count (s : Int) : Nat) + 1 : Int) = lens n (ys ++ [(s : Int)]) := by
  apply List.ext_getElem?
  intro i
  rw [List.getElem?_set]
  by_cases h : s = i
  · subst h
    simp [lens, hs]
  · rw [if_neg h]
    by_cases hi : i < n
    · have : ¬ (s : Int) = (i : Int) := by omega
      simp [lens, hi, List.count_append, this]
    · simp [lens, hi]
theorem lens_getD (n : Nat) (ys : List Int) (i : Nat) (h : i < n) : (lens n ys).getD i 0 = (ys.count (i : Int) : Nat) := by simp [lens, h]
end Go.Proofs.Ythdmjmnkhlpnnaa
