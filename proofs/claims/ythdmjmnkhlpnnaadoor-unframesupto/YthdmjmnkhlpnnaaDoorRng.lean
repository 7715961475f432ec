/-
  The document's reader: a number, whatever is wrong already.
-/
import Derived.Test.YthdmjmnkhlpnnaaDoorRfn
namespace Go.Proofs.YthdmjmnkhlpnnaaDoor
open Go.RowKit

set_option maxHeartbeats 800000 in
theorem rnum_few (w : World) (B : Nat) (s : ByteArray) (p : Nat) (tv : Value) (t : List UInt8) (M : Int) (h : Rf w B s p tv t M 0) (n : Nat) (hn : n ≤ 16) (hp : ¬ p + n ≤ 8 * s.size) :
    Calls Tryd.prog 18 #[.pointer (some ⟨B, 0, none⟩), .int .i64 n] w fun e w' => ∃ (v p' : Nat), v < 2 ^ n ∧ e = .returned (.int .i64 v) ∧ Rf w' B s p' tv t M 1 ∧ Kp 42 B w w' := by
  have HR := hid h
  have hfit := h.fit
  clear h
  go_enter Tryd.func18, Tryd.ntmps18
  go_wp2
  go_loopw [5, 6] (fun v i wr => ∃ (k x q E : Nat), k ≤ n ∧ x < 2 ^ k ∧ i = .int .i64 k ∧ v = .int .i64 x ∧ (E = 1 ∨ E = 0 ∧ q = p + k) ∧ Hid (Rf wr B s q tv t M E) ∧ Kp 42 B w wr) (fun _ i _ => n - (intOf i).toNat)
  case atStart => exact ⟨0, 0, p, 0, by omega, by simp, rfl, rfl, .inr ⟨rfl, rfl⟩, HR, Kp.refl _ _ _⟩
  case round =>
    obtain ⟨k, v, q, E, hk, hv, rfl, rfl, hE, hr, hK⟩ := hrel
    have hps : 2 ^ (k + 1) = 2 * 2 ^ k := by rw [Nat.pow_succ]; omega
    have hqf := hr.out.fit
    by_cases hlt : k < n
    · have hpl := pow_le15 k (by omega)
      obtain ⟨P, hP⟩ : ∃ P : Nat, P = 2 ^ k := ⟨_, rfl⟩
      rw [← hP] at hpl hv hps
      have HPS := hid hps
      have HPW : Hid (∀ u : World, Calls Tryd.prog 35 #[.int .i64 (k : Int)] u fun e w' => e = .returned (.int .i64 (P : Int)) ∧ u = w') := fun u => (power_any (k : Int) u (by omega) (by omega)).mono fun e w' ⟨h1, h2⟩ => ⟨by rw [h1, hP]; simp, h2⟩
      clear hP hps
      rcases hE with rfl | ⟨rfl, rfl⟩
      · go_wp2_with (first | (go_at_call 17; refine (rbit_err _ _ _ _ _ _ _ _ hr.out (by omega)).mono ?_; rintro e w' ⟨rfl, rfl⟩) | (go_at_call 35; refine (HPW.out _).mono ?_; rintro e w1 ⟨rfl, rfl⟩))
        exact ⟨⟨k + 1, v, q, 1, by omega, by have := HPS.out; omega, by go_num, int_eq (by omega), .inl rfl, hr, hK⟩, by simp [intOf]; omega⟩
      · by_cases hb : p + k < 8 * s.size
        · obtain ⟨b, hbb⟩ : ∃ b, b = bitAt s (p + k) := ⟨_, rfl⟩
          have hb2 : b < 2 := by rw [hbb]; exact bitAt_lt _ _
          obtain ⟨X, hX⟩ : ∃ X : Nat, X = b * P := ⟨_, rfl⟩
          have hbP : (b : Int) * (P : Int) = (X : Int) := by rw [hX]; push_cast; rfl
          have hbl : X ≤ P := by
            have : b * P ≤ 1 * P := Nat.mul_le_mul_right _ (by omega)
            omega
          clear hX
          have HB := hid hbb
          clear hbb
          go_wp2_with (first | (go_at_call 17; refine (rbit_ok _ _ _ _ _ _ _ hr.out hb).mono ?_; rintro e w' ⟨rfl, hr1, hk1⟩; rw [← HB.out]; have HR1 := hid hr1; clear hr1) | (go_at_call 35; refine (HPW.out _).mono ?_; rintro e w1 ⟨rfl, rfl⟩))
          exact ⟨⟨k + 1, v + X, p + k + 1, 0, by omega, by have := HPS.out; omega, by go_num, int_eq (by omega), .inr ⟨rfl, by omega⟩, HR1, hK.trans hk1⟩, by simp [intOf]; omega⟩
        · go_wp2_with (first | (go_at_call 17; refine (rbit_no _ _ _ _ _ _ _ hr.out hb).mono ?_; rintro e w' ⟨rfl, hr1, hk1⟩; have HR1 := hid hr1; clear hr1) | (go_at_call 35; refine (HPW.out _).mono ?_; rintro e w1 ⟨rfl, rfl⟩))
          exact ⟨⟨k + 1, v, p + k, 1, by omega, by have := HPS.out; omega, by go_num, int_eq (by omega), .inl rfl, HR1, hK.trans hk1⟩, by simp [intOf]; omega⟩
    · obtain rfl : k = n := by omega
      have hE1 : E = 1 := by
        rcases hE with h | ⟨rfl, rfl⟩
        · exact h
        · omega
      subst hE1
      have HV6 := hid hv
      clear hE hps hv
      go_wp2
      go_ret
      exact ⟨v, q, HV6.out, rfl, hr.out, hK⟩

/-- a number, if nothing is wrong yet or the data has ended -/
theorem rnum_gen (w : World) (B : Nat) (s : ByteArray) (p : Nat) (tv : Value) (t : List UInt8) (M : Int) (E : Nat) (h : Rf w B s p tv t M E) (hE : E = 0 ∨ E = 1) (n : Nat) (hn : n ≤ 16) :
    Calls Tryd.prog 18 #[.pointer (some ⟨B, 0, none⟩), .int .i64 n] w fun e w' => ∃ (v p' E' : Nat), v < 2 ^ n ∧ e = .returned (.int .i64 v) ∧ Rf w' B s p' tv t M E' ∧ Kp 42 B w w' ∧ (E' = 0 ∧ E = 0 ∧ p + n ≤ 8 * s.size ∧ p' = p + n ∧ v = val s p n ∨ E' = 1 ∧ ¬ (E = 0 ∧ p + n ≤ 8 * s.size)) := by
  rcases hE with rfl | rfl
  · by_cases hp : p + n ≤ 8 * s.size
    · refine (rnum_ok w B s p tv t M h n hn hp).mono ?_
      rintro e w' ⟨rfl, hr, hk⟩
      exact ⟨val s p n, p + n, 0, val_lt s p n, rfl, hr, hk, .inl ⟨rfl, rfl, hp, rfl, rfl⟩⟩
    · refine (rnum_few w B s p tv t M h n hn hp).mono ?_
      rintro e w' ⟨v, p', hv, rfl, hr, hk⟩
      exact ⟨v, p', 1, hv, rfl, hr, hk, .inr ⟨rfl, fun x => hp x.2⟩⟩
  · refine (rnum_err w B s p tv t M 1 h (by omega) n hn).mono ?_
    rintro e w' ⟨rfl, rfl⟩
    exact ⟨0, p, 1, Nat.two_pow_pos n, rfl, h, Kp.refl _ _ _, .inr ⟨rfl, fun x => absurd x.1 (by omega)⟩⟩
end Go.Proofs.YthdmjmnkhlpnnaaDoor
