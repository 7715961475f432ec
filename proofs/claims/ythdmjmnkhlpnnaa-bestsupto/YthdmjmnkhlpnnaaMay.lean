/-
  What baleref.May answers.
-/
import Derived.Test.YthdmjmnkhlpnnaaCost
namespace Go.Proofs.Ythdmjmnkhlpnnaa
open Go.RowKit

/-- may these counts have a code with this limit? -/
def mayb (cs : List Int) (m : Int) : Bool := decide (cs.any nc = false ∧ cs.length ≤ 320 ∧ 1 ≤ m ∧ m ≤ 15 ∧ (sing cs).length ≤ 2 ^ m.toNat)

set_option maxRecDepth 20000 in
set_option maxHeartbeats 2000000 in
theorem may_any (ao : Option Addr) (c : Nat) (cs : List Int) (m : Int) (w : World) (hs : Seg w ao cs) (hl : cs.length ≤ 1048576) :
    Calls Try.prog 22 #[.slice ao cs.length c, .int .i64 m] w fun e w' => e = .returned (.bool (mayb cs m)) ∧ w = w' := by
  have HS := hid hs
  clear hs
  go_enter Try.func22, Try.ntmps22
  go_wp2
  go_loop [5, 6] (fun p i => ∃ k s : Nat, k ≤ cs.length ∧ i = .int .i64 k ∧ p = .int .i64 s ∧ s ≤ k ∧ Hid ((cs.take k).any nc = false) ∧ Hid (s = (sing (cs.take k)).length)) (fun _ i => cs.length - (intOf i).toNat)
  case atStart => exact ⟨0, 0, by omega, rfl, rfl, by omega, rfl, rfl⟩
  case round =>
    obtain ⟨k, s, hk, rfl, rfl, hsk, HN, HSG⟩ := hrel
    by_cases hlt : k < cs.length
    · obtain ⟨b, off, rfl, hcc⟩ := HS.out (by omega)
      obtain ⟨x, hx⟩ : ∃ z, z = cs.getD k 0 := ⟨_, rfl⟩
      have cx : w.cell? ⟨b, off + k, none⟩ = some (.int .i64 x) := by rw [hx]; exact hcc k hlt
      have HX := hid hx
      clear hx hcc
      have BAD : Hid (nc x = true → mayb cs m = false) := fun h => by
        have h1 : cs.any nc = true := List.any_eq_true.2 ⟨x, by rw [HX.out]; simp [List.getD, hlt], h⟩
        unfold mayb
        rw [h1]
        simp
      by_cases hx0 : x < 0
      · have HF : Hid (mayb cs m = false) := BAD.out (by simp [nc]; omega)
        go_wp2
        go_ret
        exact ⟨ret_bool HF.out.symm, rfl⟩
      · by_cases hx1 : 1000000000 < x
        · have HF : Hid (mayb cs m = false) := BAD.out (by simp [nc]; omega)
          go_wp2
          go_ret
          exact ⟨ret_bool HF.out.symm, rfl⟩
        · have HN' : Hid ((cs.take (k + 1)).any nc = false) := by
            show _ = _
            rw [take_snocI cs k hlt, List.any_append, HN.out, ← HX.out]
            simp [nc]
            omega
          by_cases hx2 : 0 < x
          · have HS' : Hid (s + 1 = (sing (cs.take (k + 1))).length) := by show _ = _; rw [sing_take_succ cs k hlt, ← HX.out, if_pos hx2, List.length_append, HSG.out]; rfl
            go_wp2
            go_round
            case rel => exact ⟨k + 1, s + 1, by omega, by go_num, by go_num, by omega, HN', HS'⟩
            case measure => simp [intOf]; omega
          · have HS' : Hid (s = (sing (cs.take (k + 1))).length) := by show _ = _; rw [sing_take_succ cs k hlt, ← HX.out, if_neg hx2, List.append_nil, HSG.out]
            go_wp2
            go_round
            case rel => exact ⟨k + 1, s, by omega, by go_num, rfl, by omega, HN', HS'⟩
            case measure => simp [intOf]; omega
    · have HN' : Hid (cs.any nc = false) := by have h := HN.out; rw [List.take_of_length_le (by omega)] at h; exact h
      have HS' : Hid (s = (sing cs).length) := by have h := HSG.out; rw [List.take_of_length_le (by omega)] at h; exact h
      by_cases h1 : cs.length ≤ 320
      · by_cases h2 : 1 ≤ m
        · by_cases h3 : m ≤ 15
          · have hpw := pow_le15 m.toNat (by omega)
            obtain ⟨pw, hpe⟩ : ∃ pw : Nat, pw = 2 ^ m.toNat := ⟨_, rfl⟩
            rw [← hpe] at hpw
            have HPE := hid hpe
            clear hpe
            by_cases h4 : s ≤ pw
            · have HF : Hid (mayb cs m = true) := decide_eq_true ⟨HN'.out, h1, h2, h3, by rw [← HS'.out, ← HPE.out]; exact h4⟩
              go_wp2_with (go_at_call 28; refine (power_any _ _ (by omega) (by omega)).mono ?_; rintro e w' ⟨rfl, rfl⟩; rw [← HPE.out])
              go_ret
              exact ⟨ret_bool HF.out.symm, rfl⟩
            · have HF : Hid (mayb cs m = false) := decide_eq_false fun h => h4 (by rw [HS'.out, HPE.out]; exact h.2.2.2.2)
              go_wp2_with (go_at_call 28; refine (power_any _ _ (by omega) (by omega)).mono ?_; rintro e w' ⟨rfl, rfl⟩; rw [← HPE.out])
              go_ret
              exact ⟨ret_bool HF.out.symm, rfl⟩
          · have HF : Hid (mayb cs m = false) := decide_eq_false fun h => h3 h.2.2.2.1
            go_wp2
            go_ret
            exact ⟨ret_bool HF.out.symm, rfl⟩
        · have HF : Hid (mayb cs m = false) := decide_eq_false fun h => h2 h.2.2.1
          go_wp2
          go_ret
          exact ⟨ret_bool HF.out.symm, rfl⟩
      · have HF : Hid (mayb cs m = false) := decide_eq_false fun h => h1 h.2.1
        go_wp2
        go_ret
        exact ⟨ret_bool HF.out.symm, rfl⟩
end Go.Proofs.Ythdmjmnkhlpnnaa
