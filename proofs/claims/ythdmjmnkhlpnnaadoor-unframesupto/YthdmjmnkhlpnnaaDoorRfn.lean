/-
  The document's reader: a bit that is not there, numbers, and one byte more.
-/
import Derived.Test.YthdmjmnkhlpnnaaDoorRfs
namespace Go.Proofs.YthdmjmnkhlpnnaaDoor
open Go.RowKit

set_option maxHeartbeats 800000 in
theorem rbit_err (w : World) (B : Nat) (s : ByteArray) (p : Nat) (tv : Value) (t : List UInt8) (M : Int) (E : Nat) (h : Rf w B s p tv t M E) (hE : E ≠ 0) :
    Calls Tryd.prog 17 #[.pointer (some ⟨B, 0, none⟩)] w fun e w' => e = .returned (.int .i64 0) ∧ w = w' := by
  obtain ⟨-, -, -, -, c4, -⟩ := h.cell
  have hb : ((E : Int) != 0) = true := by rw [bne_iff_ne]; omega
  clear h
  go_enter Tryd.func17, Tryd.ntmps17
  go_wp2
  go_ret
  exact ⟨rfl, rfl⟩

set_option maxHeartbeats 800000 in
theorem rbit_no (w : World) (B : Nat) (s : ByteArray) (p : Nat) (tv : Value) (t : List UInt8) (M : Int) (h : Rf w B s p tv t M 0) (hp : ¬ p < 8 * s.size) :
    Calls Tryd.prog 17 #[.pointer (some ⟨B, 0, none⟩)] w fun e w' => e = .returned (.int .i64 0) ∧ Rf w' B s p tv t M 1 ∧ Kp 42 B w w' := by
  obtain ⟨c0, c1, -, -, c4, -⟩ := h.cell
  have HR := hid h
  have hs := h.sml
  clear h
  go_enter Tryd.func17, Tryd.ntmps17
  go_wp2
  go_quiet (fail)
  go_wp2_with (go_at_call 23; refine (stop_any _ B s p tv t M 1 (HR.out.drewN _)).mono ?_; rintro e w1 ⟨rfl, hr1, hk1⟩)
  go_ret
  exact ⟨rfl, hr1, ((Kp.refl _ _ _).drewN _).trans hk1⟩

set_option maxHeartbeats 800000 in
theorem rnum_err (w : World) (B : Nat) (s : ByteArray) (p : Nat) (tv : Value) (t : List UInt8) (M : Int) (E : Nat) (h : Rf w B s p tv t M E) (hE : E ≠ 0) (n : Nat) (hn : n ≤ 16) :
    Calls Tryd.prog 18 #[.pointer (some ⟨B, 0, none⟩), .int .i64 n] w fun e w' => e = .returned (.int .i64 0) ∧ w = w' := by
  have HB := hid (rbit_err w B s p tv t M E h hE)
  clear h
  go_enter Tryd.func18, Tryd.ntmps18
  go_wp2
  go_loop [5, 6] (fun v i => ∃ k : Nat, k ≤ n ∧ i = .int .i64 k ∧ v = .int .i64 0) (fun _ i => n - (intOf i).toNat)
  case atStart => exact ⟨0, by omega, rfl, rfl⟩
  case round =>
    obtain ⟨k, hk, rfl, rfl⟩ := hrel
    by_cases hlt : k < n
    · go_wp2_with (first | (go_at_call 17; refine HB.out.mono ?_; rintro e w1 ⟨rfl, rfl⟩) | (go_at_call 35; refine (power_any (k : Int) _ (by omega) (by omega)).mono ?_; rintro e w1 ⟨rfl, rfl⟩))
      go_round
      case rel => exact ⟨k + 1, by omega, by go_num, by simp⟩
      case measure => simp [intOf]; omega
    · go_wp2
      go_ret
      exact ⟨rfl, rfl⟩

set_option maxHeartbeats 800000 in
theorem rnum_ok (w : World) (B : Nat) (s : ByteArray) (p : Nat) (tv : Value) (t : List UInt8) (M : Int) (h : Rf w B s p tv t M 0) (n : Nat) (hn : n ≤ 16) (hp : p + n ≤ 8 * s.size) :
    Calls Tryd.prog 18 #[.pointer (some ⟨B, 0, none⟩), .int .i64 n] w fun e w' => e = .returned (.int .i64 (val s p n)) ∧ Rf w' B s (p + n) tv t M 0 ∧ Kp 42 B w w' := by
  have HR := hid h
  clear h
  go_enter Tryd.func18, Tryd.ntmps18
  go_wp2
  go_loopw [5, 6] (fun v i wr => ∃ k : Nat, k ≤ n ∧ i = .int .i64 k ∧ v = .int .i64 (val s p k) ∧ Hid (Rf wr B s (p + k) tv t M 0) ∧ Kp 42 B w wr) (fun _ i _ => n - (intOf i).toNat)
  case atStart => exact ⟨0, by omega, rfl, rfl, HR, Kp.refl _ _ _⟩
  case round =>
    obtain ⟨k, hk, rfl, rfl, hr, hK⟩ := hrel
    by_cases hlt : k < n
    · have hv := val_lt s p k
      obtain ⟨v, hvv⟩ : ∃ v, v = val s p k := ⟨_, rfl⟩
      obtain ⟨b, hb⟩ : ∃ b, b = bitAt s (p + k) := ⟨_, rfl⟩
      have hb2 : b < 2 := by rw [hb]; exact bitAt_lt _ _
      have hpl := pow_le15 k (by omega)
      obtain ⟨P, hP⟩ : ∃ P : Nat, P = 2 ^ k := ⟨_, rfl⟩
      rw [← hP] at hpl
      have hvP : v < P := by rw [hvv, hP]; exact hv
      obtain ⟨X, hX⟩ : ∃ X : Nat, X = b * P := ⟨_, rfl⟩
      have hbP : (b : Int) * (P : Int) = (X : Int) := by rw [hX]; push_cast; rfl
      have hbl : X ≤ 32768 := by
        have : b * P ≤ 1 * P := Nat.mul_le_mul_right _ (by omega)
        omega
      have HV : Hid ((v : Int) + (X : Int) = (val s p (k + 1) : Int)) := by show _ = _; rw [hX, hvv, hb, hP]; simp [val]
      clear hX
      have HPW : Hid (∀ u : World, Calls Tryd.prog 35 #[.int .i64 (k : Int)] u fun e w' => e = .returned (.int .i64 (P : Int)) ∧ u = w') := fun u => (power_any (k : Int) u (by omega) (by omega)).mono fun e w' ⟨h1, h2⟩ => ⟨by rw [h1, hP]; simp, h2⟩
      rw [← hvv]
      have HB := hid hb
      clear hv hvv hb hP
      go_wp2_with (first | (go_at_call 17; refine (rbit_ok _ _ _ _ _ _ _ hr.out (by omega)).mono ?_; rintro e w' ⟨rfl, hr1, hk1⟩; rw [← HB.out]; have HR1 := hid hr1; clear hr1) | (go_at_call 35; refine (HPW.out _).mono ?_; rintro e w1 ⟨rfl, rfl⟩))
      exact ⟨⟨k + 1, by omega, by go_num, int_eq HV.out, HR1, hK.trans hk1⟩, by simp [intOf]; omega⟩
    · obtain rfl : k = n := by omega
      go_wp2
      go_ret
      exact ⟨rfl, hr.out, hK⟩

set_option maxHeartbeats 800000 in
theorem rnum_no (w : World) (B : Nat) (s : ByteArray) (p : Nat) (tv : Value) (t : List UInt8) (M : Int) (h : Rf w B s p tv t M 0) (n : Nat) (hn : n ≤ 16) (hp : ¬ p + n ≤ 8 * s.size) :
    Calls Tryd.prog 18 #[.pointer (some ⟨B, 0, none⟩), .int .i64 n] w fun e w' => ∃ (v p' : Nat), v < 65536 ∧ e = .returned (.int .i64 v) ∧ Rf w' B s p' tv t M 1 ∧ Kp 42 B w w' := by
  have HR := hid h
  have hfit := h.fit
  clear h
  go_enter Tryd.func18, Tryd.ntmps18
  go_wp2
  go_loopw [5, 6] (fun v i wr => ∃ (k x q E : Nat), k ≤ n ∧ x < 2 ^ k ∧ i = .int .i64 k ∧ v = .int .i64 x ∧ (E = 1 ∨ E = 0 ∧ q = p + k) ∧ Hid (Rf wr B s q tv t M E) ∧ Kp 42 B w wr) (fun _ i _ => n - (intOf i).toNat)
  case atStart => exact ⟨0, 0, p, 0, by omega, by simp, rfl, rfl, .inr ⟨rfl, rfl⟩, HR, Kp.refl _ _ _⟩
  case round =>
    obtain ⟨k, v, q, E, hk, hv, rfl, rfl, hE, hr, hK⟩ := hrel
    have hps : 2 ^ (k + 1) = 2 * 2 ^ k := by rw [Nat.pow_succ]; omega
    have hqf := hr.out.fit
    by_cases hlt : k < n
    · have hpl := pow_le15 k (by omega)
      obtain ⟨P, hP⟩ : ∃ P : Nat, P = 2 ^ k := ⟨_, rfl⟩
      rw [← hP] at hpl hv hps
      have HPS := hid hps
      have HPW : Hid (∀ u : World, Calls Tryd.prog 35 #[.int .i64 (k : Int)] u fun e w' => e = .returned (.int .i64 (P : Int)) ∧ u = w') := fun u => (power_any (k : Int) u (by omega) (by omega)).mono fun e w' ⟨h1, h2⟩ => ⟨by rw [h1, hP]; simp, h2⟩
      clear hP hps
      rcases hE with rfl | ⟨rfl, rfl⟩
      · go_wp2_with (first | (go_at_call 17; refine (rbit_err _ _ _ _ _ _ _ _ hr.out (by omega)).mono ?_; rintro e w' ⟨rfl, rfl⟩) | (go_at_call 35; refine (HPW.out _).mono ?_; rintro e w1 ⟨rfl, rfl⟩))
        exact ⟨⟨k + 1, v, q, 1, by omega, by have := HPS.out; omega, by go_num, int_eq (by omega), .inl rfl, hr, hK⟩, by simp [intOf]; omega⟩
      · by_cases hb : p + k < 8 * s.size
        · obtain ⟨b, hbb⟩ : ∃ b, b = bitAt s (p + k) := ⟨_, rfl⟩
          have hb2 : b < 2 := by rw [hbb]; exact bitAt_lt _ _
          obtain ⟨X, hX⟩ : ∃ X : Nat, X = b * P := ⟨_, rfl⟩
          have hbP : (b : Int) * (P : Int) = (X : Int) := by rw [hX]; push_cast; rfl
          have hbl : X ≤ P := by
            have : b * P ≤ 1 * P := Nat.mul_le_mul_right _ (by omega)
            omega
          clear hX
          have HB := hid hbb
          clear hbb
          go_wp2_with (first | (go_at_call 17; refine (rbit_ok _ _ _ _ _ _ _ hr.out hb).mono ?_; rintro e w' ⟨rfl, hr1, hk1⟩; rw [← HB.out]; have HR1 := hid hr1; clear hr1) | (go_at_call 35; refine (HPW.out _).mono ?_; rintro e w1 ⟨rfl, rfl⟩))
          exact ⟨⟨k + 1, v + X, p + k + 1, 0, by omega, by have := HPS.out; omega, by go_num, int_eq (by omega), .inr ⟨rfl, by omega⟩, HR1, hK.trans hk1⟩, by simp [intOf]; omega⟩
        · go_wp2_with (first | (go_at_call 17; refine (rbit_no _ _ _ _ _ _ _ hr.out hb).mono ?_; rintro e w' ⟨rfl, hr1, hk1⟩; have HR1 := hid hr1; clear hr1) | (go_at_call 35; refine (HPW.out _).mono ?_; rintro e w1 ⟨rfl, rfl⟩))
          exact ⟨⟨k + 1, v, p + k, 1, by omega, by have := HPS.out; omega, by go_num, int_eq (by omega), .inl rfl, HR1, hK.trans hk1⟩, by simp [intOf]; omega⟩
    · obtain rfl : k = n := by omega
      have hE1 : E = 1 := by
        rcases hE with h | ⟨rfl, rfl⟩
        · exact h
        · omega
      subst hE1
      have h16 : 2 ^ k ≤ 2 ^ 16 := Nat.pow_le_pow_right (by omega) hn
      have e16 : (2 : Nat) ^ 16 = 65536 := by decide
      have hv6 : v < 65536 := by omega
      clear hE h16 e16 hps hv
      go_wp2
      go_ret
      exact ⟨v, q, hv6, rfl, hr.out, hK⟩

set_option maxRecDepth 20000 in
set_option maxHeartbeats 800000 in
theorem put_ok (w : World) (B : Nat) (s : ByteArray) (p : Nat) (tv : Value) (t : List UInt8) (M : Int) (b : UInt8) (h : Rf w B s p tv t M 0) (hp : (t.length : Int) < M) (hrm : t.length + 1 ≤ 258 * p) :
    Calls Tryd.prog 36 #[.pointer (some ⟨B, 0, none⟩), .int .u8 b.toNat] w fun e w' => e = .returned (.tuple #[]) ∧ (∃ tv', Rf w' B s p tv' (t ++ [b]) M 0) ∧ Kp 42 B w w' := by
  obtain ⟨-, -, c2, c3, c4, -⟩ := h.cell
  have f2 := h.free 2
  have ht : t.length ≤ 4294967296 := by have := h.rom; have := h.fit; have := h.sml; omega
  have hge : decide (M ≤ (t.length : Int)) = false := by simp; omega
  have hB := h.lt
  have HR := hid h
  obtain ⟨i0, hi, hz0, hz1, hz2⟩ := info_parts info5
  obtain ⟨ao, c, rfl⟩ := h.shape
  clear h
  go_enter Tryd.func36, Tryd.ntmps36
  go_wp2
  go_quiet (fail)
  go_wp2_with (at_builtin; refine wpList_append_lies _ rfl (.tmp 32) (.tmp 34) 33 rfl (B + 1) 5 i0 (.int .u8 0) 1 1 Tryd.underlying33 hi hz0 hz1 hz2 rfl (by decide) (.slice ao t.length c) t.length (bys t) rfl ((HR.out.drewN _).alloc _).own ⟨w.heap.size, 0, none⟩ 1 1 [.int .u8 b.toNat] rfl rfl (cell_one_new _ _ _) ?c2 (by decide) ?c3 ?c4 ?c5 _ rfl ?_)
  case c2 => intro u hu; simp at hu; subst hu; rfl
  case c3 => unfold maxLen; omega
  case c4 => omega
  case c5 => simp; omega
  intro g cap w1 hown hgrow hat hlt
  have hK1 : Kp 42 B w w1 := (((Kp.refl 42 B w).drewN nq).alloc (by simp; omega) _).grown hgrow (by simp; omega) ((HR.out.drewN nq).alloc _).own
  obtain ⟨far, hb0⟩ := ((HR.out.drewN nq).alloc (.cells #[.int .u8 b.toNat] 5)).blk
  have hblk := (hgrow.block B (by simp; omega) (fun e => by
    have := ((HR.out.drewN nq).alloc (.cells #[.int .u8 b.toNat] 5)).own.lt B e.symm
    omega)).trans hb0
  have c2' : w1.cell? ⟨B, 2, none⟩ = some (.slice ao t.length c) := by rw [cell_of_row w1 B 2 _ 42 (0, 0) hblk]; rfl
  have f2' : w1.frozen? ⟨B, 2, none⟩ = false := by simp [World.frozen?, hblk]
  clear hgrow hat hlt c2 c3 c4 f2 hi hz0 hz1 hz2 hb0
  have HB1 := hid hblk
  clear hblk
  go_wp2
  go_end0
  refine ⟨rfl, ⟨.slice (some ⟨g, 0, none⟩) (t.length + 1) cap, ⟨⟨far, ?_⟩, ?_, HR.out.sml, HR.out.fit, by simp; omega, by simp; exact hrm⟩⟩, hK1.setCell HB1.out rfl _⟩
  · rw [blk_set HB1.out]
    rfl
  · rw [bys_snoc, List.length_append]
    exact own_set hown rfl _

set_option maxHeartbeats 800000 in
theorem put_no (w : World) (B : Nat) (s : ByteArray) (p : Nat) (tv : Value) (t : List UInt8) (M : Int) (b : UInt8) (h : Rf w B s p tv t M 0) (hp : ¬ (t.length : Int) < M) :
    Calls Tryd.prog 36 #[.pointer (some ⟨B, 0, none⟩), .int .u8 b.toNat] w fun e w' => e = .returned (.tuple #[]) ∧ Rf w' B s p tv t M 6 ∧ Kp 42 B w w' := by
  obtain ⟨-, -, c2, c3, c4, -⟩ := h.cell
  have hge : decide (M ≤ (t.length : Int)) = true := by simp; omega
  have HR := hid h
  obtain ⟨ao, c, rfl⟩ := h.shape
  clear h hp
  go_enter Tryd.func36, Tryd.ntmps36
  go_wp2
  go_quiet (fail)
  go_wp2_with (go_at_call 23; refine (stop_any _ B s p _ t M 6 (HR.out.drewN _)).mono ?_; rintro e w1 ⟨rfl, hr1, hk1⟩; have d4 := hr1.cell.2.2.2.2.1; have HR1 := hid hr1; clear hr1)
  go_end0
  exact ⟨rfl, HR1.out, ((Kp.refl _ _ _).drewN _).trans hk1⟩
end Go.Proofs.YthdmjmnkhlpnnaaDoor
