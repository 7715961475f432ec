/-
  Small questions to a code, and the order in which the lengths come.
-/
import Derived.Test.YthdmjmnkhlpnnaaDoorAgain
namespace Go.Proofs.YthdmjmnkhlpnnaaDoor
open Go.RowKit

theorem wt_bound (zs : List Int) (h : zs.length ≤ 320) : wt zs ≤ 5242880 := by have := wt_le zs; omega

set_option maxHeartbeats 800000 in
theorem isComplete_any (w : World) (b : Nat) (zs : List Int) (hc : Cod w b zs) :
    Calls Tryd.prog 108 #[.pointer (some ⟨b, 0, none⟩)] w fun e w' => e = .returned (.bool (decide (wt zs = 32768))) ∧ w = w' := by
  obtain ⟨g, R, hb, hR, hS⟩ := hc
  obtain ⟨c0, -, -, -⟩ := cdc_cell hb
  clear hb hR hS
  obtain ⟨n, hn⟩ : ∃ n, n = wt zs := ⟨_, rfl⟩
  rw [← hn] at c0 ⊢
  clear hn
  have hd : ((n : Int) == 32768) = decide (n = 32768) := by
    by_cases h : n = 32768
    · subst h; rfl
    · rw [decide_eq_false h]; exact beq_eq_false_iff_ne.2 (by omega)
  have HD := hid hd
  clear hd
  go_enter Tryd.func108, Tryd.ntmps108
  go_wp2
  go_ret
  exact ⟨by rw [← HD.out]; rfl, rfl⟩

set_option maxHeartbeats 800000 in
theorem isEmpty_any (w : World) (b : Nat) (zs : List Int) (hc : Cod w b zs) :
    Calls Tryd.prog 110 #[.pointer (some ⟨b, 0, none⟩)] w fun e w' => e = .returned (.bool (decide (plc zs 15 = 0))) ∧ w = w' := by
  obtain ⟨g, R, hb, hR, hS⟩ := hc
  obtain ⟨-, -, c17, -⟩ := cdc_cell hb
  clear hb hR hS
  obtain ⟨n, hn⟩ : ∃ n, n = plc zs 15 := ⟨_, rfl⟩
  rw [← hn] at c17 ⊢
  clear hn
  have hd : ((n : Int) == 0) = decide (n = 0) := by
    by_cases h : n = 0
    · subst h; rfl
    · rw [decide_eq_false h]; exact beq_eq_false_iff_ne.2 (by omega)
  have HD := hid hd
  clear hd
  go_enter Tryd.func110, Tryd.ntmps110
  go_wp2
  go_ret
  exact ⟨by rw [← HD.out]; rfl, rfl⟩

set_option maxHeartbeats 800000 in
theorem isAlone_any (w : World) (b : Nat) (zs : List Int) (hc : Cod w b zs) :
    Calls Tryd.prog 109 #[.pointer (some ⟨b, 0, none⟩)] w fun e w' => e = .returned (.bool (decide (plc zs 15 = 1) && decide (cnt zs 1 = 1))) ∧ w = w' := by
  obtain ⟨g, R, hb, hR, hS⟩ := hc
  obtain ⟨-, cp, c17, -⟩ := cdc_cell hb
  have c2 := cp 1 (by omega)
  clear hb hR hS cp
  obtain ⟨n, hn⟩ : ∃ n, n = plc zs 15 := ⟨_, rfl⟩
  obtain ⟨k, hk⟩ : ∃ k, k = cnt zs 1 := ⟨_, rfl⟩
  rw [← hn] at c17 ⊢
  rw [← hk] at c2 ⊢
  clear hn hk
  by_cases hn1 : n = 1
  · subst hn1
    have hd : ((k : Int) == 1) = decide (k = 1) := by
      by_cases h : k = 1
      · subst h; rfl
      · rw [decide_eq_false h]; exact beq_eq_false_iff_ne.2 (by omega)
    have HD := hid hd
    clear hd
    go_enter Tryd.func109, Tryd.ntmps109
    go_wp2
    go_ret
    exact ⟨by rw [← HD.out]; rfl, rfl⟩
  · have hb : ((n : Int) == 1) = false := beq_eq_false_iff_ne.2 (by omega)
    have hb2 : decide (n = 1) = false := decide_eq_false hn1
    rw [hb2]
    clear hb2
    go_enter Tryd.func109, Tryd.ntmps109
    go_wp2
    go_ret
    exact ⟨rfl, rfl⟩

set_option maxHeartbeats 800000 in
theorem mayL_any (w : World) (b : Nat) (zs : List Int) (hc : Cod w b zs) :
    Calls Tryd.prog 80 #[.pointer (some ⟨b, 0, none⟩)] w fun e w' => e = .returned (.bool (mayL zs)) ∧ w = w' := by
  have HC := hid (isComplete_any w b zs hc)
  have HA := hid (isAlone_any w b zs hc)
  obtain ⟨x, hx⟩ : ∃ x, x = decide (wt zs = 32768) := ⟨_, rfl⟩
  obtain ⟨y, hy⟩ : ∃ y, y = (decide (plc zs 15 = 1) && decide (cnt zs 1 = 1)) := ⟨_, rfl⟩
  have e : mayL zs = (x || y) := by unfold mayL; rw [hx, hy]
  rw [← hx] at HC
  rw [← hy] at HA
  rw [e]
  clear e hx hy hc
  cases x
  all_goals
    go_enter Tryd.func80, Tryd.ntmps80
    go_wp2_with (first | (go_at_call 108; refine HC.out.mono ?_; rintro e w' ⟨rfl, rfl⟩) | (go_at_call 109; refine HA.out.mono ?_; rintro e w' ⟨rfl, rfl⟩))
    go_ret
    exact ⟨rfl, rfl⟩

set_option maxHeartbeats 800000 in
theorem mayS_any (w : World) (b : Nat) (zs : List Int) (hc : Cod w b zs) :
    Calls Tryd.prog 81 #[.pointer (some ⟨b, 0, none⟩)] w fun e w' => e = .returned (.bool (mayS zs)) ∧ w = w' := by
  have HC := hid (isComplete_any w b zs hc)
  have HA := hid (isAlone_any w b zs hc)
  have HE := hid (isEmpty_any w b zs hc)
  obtain ⟨x, hx⟩ : ∃ x, x = decide (wt zs = 32768) := ⟨_, rfl⟩
  obtain ⟨y, hy⟩ : ∃ y, y = (decide (plc zs 15 = 1) && decide (cnt zs 1 = 1)) := ⟨_, rfl⟩
  obtain ⟨z, hz⟩ : ∃ z, z = decide (plc zs 15 = 0) := ⟨_, rfl⟩
  have e : mayS zs = (x || y || z) := by unfold mayS mayL; rw [hx, hy, hz]
  rw [← hx] at HC
  rw [← hy] at HA
  rw [← hz] at HE
  rw [e]
  clear e hx hy hz hc
  cases x <;> cases y
  all_goals
    go_enter Tryd.func81, Tryd.ntmps81
    go_wp2_with (first | (go_at_call 108; refine HC.out.mono ?_; rintro e w' ⟨rfl, rfl⟩) | (go_at_call 109; refine HA.out.mono ?_; rintro e w' ⟨rfl, rfl⟩) | (go_at_call 110; refine HE.out.mono ?_; rintro e w' ⟨rfl, rfl⟩))
    go_ret
    exact ⟨rfl, rfl⟩
end Go.Proofs.YthdmjmnkhlpnnaaDoor
