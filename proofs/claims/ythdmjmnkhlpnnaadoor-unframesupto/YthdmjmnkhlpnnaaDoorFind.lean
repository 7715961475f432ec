/-
  How the program finds a symbol by its bits.
-/
import Derived.Test.YthdmjmnkhlpnnaaDoorCode
namespace Go.Proofs.YthdmjmnkhlpnnaaDoor
open Go.RowKit

theorem Cod.kp {X : TypeId} {B : Nat} {w w' : World} {b : Nat} {zs : List Int} (h : Cod w b zs) (hk : Kp X B w w') (hX : X = 63 ∨ X = 42) : Cod w' b zs := by
  obtain ⟨g, R, h1, h2, h3⟩ := h
  refine ⟨g, R, hk.cells h1 ?_ (by decide), hk.cells h2 ?_ (by decide), h3⟩ <;> rcases hX with rfl | rfl <;> decide
theorem Cod.lt {w : World} {b : Nat} {zs : List Int} (h : Cod w b zs) : b < w.heap.size := by
  obtain ⟨g, R, h1, -, -⟩ := h
  exact (Array.getElem?_eq_some_iff.1 h1).1
theorem Cod.drew {w : World} {b : Nat} {zs : List Int} (h : Cod w b zs) : Cod w.drew b zs := h
theorem Cod.drewN {w : World} {b : Nat} {zs : List Int} (h : Cod w b zs) (n : Nat) : Cod (w.drewN n) b zs := h
theorem Cod.below {w w' : World} {b : Nat} {zs : List Int} (h : Cod w b zs) (hb : Below w.heap.size w w') : Cod w' b zs := by
  obtain ⟨g, R, h1, h2, h3⟩ := h
  exact ⟨g, R, (hb.block b (Array.getElem?_eq_some_iff.1 h1).1).trans h1, (hb.block g (Array.getElem?_eq_some_iff.1 h2).1).trans h2, h3⟩

/-- what the finding of a symbol comes to -/
def Found (B : Nat) (s : ByteArray) (tv : Value) (t : List UInt8) (M : Int) (fx : Option Addr) (r : Rs) (w : World) (e : Ending) (w' : World) : Prop :=
  match r with
  | .ok v q => e = .returned (.tuple #[.int .i64 v, .bool true]) ∧ Rd w' B s q tv t M fx ∧ Kp 63 B w w'
  | .no 4 => e = .returned (.tuple #[.int .i64 0, .bool false]) ∧ (∃ p', Rd w' B s p' tv t M fx) ∧ Kp 63 B w w'
  | .no k => Gave B s tv t M fx k w e w'

theorem or_bit (a b : Nat) (ha : a ≤ 65536) (hb : b < 2) : bits .or .i64 ((a : Int) * 2) (b : Int) = ((2 * a + b : Nat) : Int) := by
  have e2 : (2 : Nat) ^ 62 = 4611686018427387904 := by decide
  have h := (bits_nat .i64 62 (by decide) wraps_i64 (a * 2) b (by omega) (by omega)).2
  have e3 : a * 2 ||| b = 2 * a + b := by
    have := Nat.two_pow_add_eq_or_of_lt (i := 1) (b := b) (by omega) a
    rw [Nat.pow_one] at this
    rw [Nat.mul_comm, ← this]
  rw [e3] at h
  have e4 : ((a * 2 : Nat) : Int) = (a : Int) * 2 := by omega
  rw [e4] at h
  exact h
theorem symF_end (zs : List Int) (s : ByteArray) (f n ab p : Nat) (h : ¬ p < 8 * s.size) : symF zs s (f + 1) n ab p = .no 1 := by rw [symF, if_neg h]
theorem symF_hit (zs : List Int) (s : ByteArray) (f n ab p : Nat) (h : p < 8 * s.size) (h2 : 2 * ab + bitAt s p < cnt zs (n + 1)) : symF zs s (f + 1) n ab p = .ok (sy zs (n + 1) (2 * ab + bitAt s p)) (p + 1) := by rw [symF, if_pos h, if_pos h2]
theorem symF_miss (zs : List Int) (s : ByteArray) (f n ab p : Nat) (h : p < 8 * s.size) (h2 : ¬ 2 * ab + bitAt s p < cnt zs (n + 1)) : symF zs s (f + 1) n ab p = symF zs s f (n + 1) (2 * ab + bitAt s p - cnt zs (n + 1)) (p + 1) := by rw [symF, if_pos h, if_neg h2]

set_option maxRecDepth 20000 in
set_option maxHeartbeats 1600000 in
theorem find_any (w : World) (B : Nat) (s : ByteArray) (p : Nat) (tv : Value) (t : List UInt8) (M : Int) (fx : Option Addr) (b : Nat) (zs : List Int) (h : Rd w B s p tv t M fx) (hc : Cod w b zs) (hm : zs.length ≤ 320) :
    Calls Tryd.prog 99 #[.pointer (some ⟨b, 0, none⟩), .func (.func 49) #[.pointer (some ⟨B, 0, none⟩)] #[]] w fun e w' => Found B s tv t M fx (sym zs s p) w e w' := by
  have HR := hid h
  have HC := hid hc
  have hfit := h.fit
  clear h hc
  go_enter Tryd.func99, Tryd.ntmps99
  go_wp2
  go_loopw [6, 7, 15] (fun va vs vi wr => ∃ k ab q : Nat, k ≤ 15 ∧ ab < 2 ^ k ∧ q ≤ 8 * s.size ∧ vi = .int .i64 k ∧ va = .int .i64 ab ∧ vs = .int .i64 (plc zs k) ∧ Hid (sym zs s p = symF zs s (15 - k) k ab q) ∧ Hid (Rd wr B s q tv t M fx) ∧ Kp 63 B w wr) (fun _ _ i _ => 15 - (intOf i).toNat)
  case atStart => exact ⟨0, 0, p, by omega, by omega, hfit, rfl, rfl, rfl, rfl, HR, Kp.refl _ _ _⟩
  case round =>
    obtain ⟨k, ab, q, hk, hab, hq, rfl, rfl, rfl, hS, hr, hK⟩ := hrel
    have hpw : 2 ^ k ≤ 2 ^ 15 := Nat.pow_le_pow_right (by omega) hk
    have hpe : (2 : Nat) ^ 15 = 32768 := by decide
    have habb : ab < 32768 := by omega
    have hps : 2 ^ (k + 1) = 2 * 2 ^ k := by rw [Nat.pow_succ]; omega
    have hpl := plc_le zs k
    by_cases hlt : k < 15
    · obtain ⟨g, R, hb, hR, hSo⟩ := (HC.out.kp hK (.inl rfl))
      obtain ⟨-, cp, -, -⟩ := cdc_cell hb
      obtain ⟨y, hy⟩ : ∃ y : Nat, y = cnt zs (k + 1) := ⟨_, rfl⟩
      obtain ⟨x, hx⟩ : ∃ x : Nat, x = plc zs k := ⟨_, rfl⟩
      obtain ⟨N, hN⟩ : ∃ N : Nat, N = plc zs 15 := ⟨_, rfl⟩
      rw [← hN] at hb
      have hxy : x + y ≤ N := by rw [hx, hy, hN]; exact plc_mono zs (show k + 1 ≤ 15 by omega)
      have hN3 : N ≤ 320 := by rw [hN]; exact Nat.le_trans (plc_le zs 15) hm
      have hcy : wr.cell? ⟨b, 2 + k, none⟩ = some (.int .i64 y) := by have := cp (k + 1) (by omega); rw [hy, show 2 + k = 1 + (k + 1) by omega]; exact this
      have HY := hid hy
      have HX := hid hx
      have hf : 15 - k = (15 - (k + 1)) + 1 := by omega
      have HF := hid hf
      have HPS := hid hps
      have HB := hid hb
      have HRo := hid hR
      have HRl : Hid (R.length = N) := by show _ = _; rw [hN]; exact hSo.1
      have HSo := hid hSo
      rw [← hx]
      clear cp hb hy hx hN hf hps hpe hpw hpl hR hSo
      by_cases hbit : q < 8 * s.size
      · obtain ⟨d, hd⟩ : ∃ d, d = bitAt s q := ⟨_, rfl⟩
        have hd2 : d < 2 := by rw [hd]; exact bitAt_lt _ _
        have hor := or_bit ab d (by omega) hd2
        have HD := hid hd
        clear hd
        by_cases hhit : 2 * ab + d < y
        · have hdec : decide (2 * (ab : Int) + (d : Int) < (y : Int)) = true := by simp; omega
          have i0 : (0 : Int) ≤ (x : Int) + (2 * (ab : Int) + (d : Int)) := by omega
          have i1 : (x : Int) + (2 * (ab : Int) + (d : Int)) < (N : Int) := by omega
          have i2 : ((x : Int) + (2 * (ab : Int) + (d : Int))).toNat = x + (2 * ab + d) := by omega
          have HSY : Hid (R.getD (x + (2 * ab + d)) 0 = sy zs (k + 1) (2 * ab + d)) := by
            have := HSo.out.2 (k + 1) (2 * ab + d) (by omega) (by omega) (by rw [List.take_of_length_le (Nat.le_refl _), ← HY.out]; exact hhit)
            show _ = _
            rw [HX.out]
            exact this
          go_wp2_with (go_at_call 49; refine (next_ok _ _ _ _ _ _ _ _ hr.out hbit).mono ?_; rintro e w' ⟨rfl, hr1, hk1⟩; rw [← HD.out]; have m17 : w'.cell? ⟨b, 17, none⟩ = some (.slice (some ⟨g, 0, none⟩) N N) := (cdc_cell (hk1.cells HB.out (by decide) (by decide))).2.2.1; have ms : w'.cell? ⟨g, x + (2 * ab + d), none⟩ = some (.int .i64 (R.getD (x + (2 * ab + d)) 0)) := Row.cell (hk1.cells HRo.out (by decide) (by decide)) (by rw [HRl.out]; omega))
          go_ret2
          rw [show sym zs s p = .ok (sy zs (k + 1) (2 * ab + d)) (q + 1) by rw [hS.out, HF.out, symF_hit zs s _ k ab q hbit (by rw [← HD.out, ← HY.out]; exact hhit), ← HD.out]]
          refine ⟨?_, hr1, hK.trans hk1⟩
          rw [← HSY.out, List.getD_eq_getElem?_getD]
          rfl
        · have hdec : decide (2 * (ab : Int) + (d : Int) < (y : Int)) = false := by simp; omega
          go_wp2_with (go_at_call 49; refine (next_ok _ _ _ _ _ _ _ _ hr.out hbit).mono ?_; rintro e w' ⟨rfl, hr1, hk1⟩; rw [← HD.out])
          have h1 := HPS.out
          refine ⟨⟨k + 1, 2 * ab + d - y, q + 1, by omega, by omega, by omega, by go_num, int_eq (by omega), ?_, ?_, hr1, hK.trans hk1⟩, by simp [intOf]; omega⟩
          · refine int_eq ?_
            have h2 := HX.out
            have h3 := HY.out
            simp only [plc]
            omega
          · show _ = _
            rw [hS.out, HF.out, symF_miss zs s _ k ab q hbit (by rw [← HD.out, ← HY.out]; exact hhit), ← HD.out, ← HY.out]
      · go_wp2_with (go_at_call 49; refine (next_no _ _ _ _ _ _ _ _ hr.out hbit).mono ?_; rintro e w' ⟨rfl, hr1, hk1⟩)
        rw [show sym zs s p = .no 1 by rw [hS.out, HF.out, symF_end zs s _ k ab q hbit]]
        exact ⟨rfl, rfl, hr1, hK.trans hk1⟩
    · obtain rfl : k = 15 := by omega
      go_wp2
      go_ret2
      rw [show sym zs s p = .no 4 by rw [hS.out]; rfl]
      exact ⟨rfl, ⟨_, hr.out⟩, hK⟩

/-- what the reading of a symbol comes to -/
def Told (B : Nat) (s : ByteArray) (tv : Value) (t : List UInt8) (M : Int) (fx : Option Addr) (r : Rs) (w : World) (e : Ending) (w' : World) : Prop :=
  match r with
  | .ok v q => e = .returned (.int .i64 v) ∧ Rd w' B s q tv t M fx ∧ Kp 63 B w w'
  | .no k => Gave B s tv t M fx k w e w'

set_option maxHeartbeats 800000 in
theorem symbol_any (w : World) (B : Nat) (s : ByteArray) (p : Nat) (tv : Value) (t : List UInt8) (M : Int) (fx : Option Addr) (b : Nat) (zs : List Int) (h : Rd w B s p tv t M fx) (hc : Cod w b zs) (hm : zs.length ≤ 320) :
    Calls Tryd.prog 71 #[.pointer (some ⟨B, 0, none⟩), .pointer (some ⟨b, 0, none⟩)] w fun e w' => Told B s tv t M fx (sym zs s p) w e w' := by
  have hmf : ∀ (fn : Fn) (first cap : Array Value) (w : World), (Instr.makeFunc fn first cap).run Tryd.prog w = .ok (.func fn first cap) w := fun _ _ _ _ => rfl
  have hf := find_any w B s p tv t M fx b zs h hc hm
  clear h hc
  cases hr : sym zs s p with
  | ok v q =>
    rw [hr] at hf
    have HF := hid hf
    clear hf hr
    go_enter Tryd.func71, Tryd.ntmps71
    go_wp2_with (go_at_call 99; refine HF.out.mono ?_; rintro e w' ⟨rfl, hr1, hk1⟩)
    go_ret
    exact ⟨rfl, hr1, hk1⟩
  | no k =>
    rcases symF_no _ _ _ _ _ _ _ hr with rfl | rfl
    · rw [hr] at hf
      have HF := hid hf
      clear hf hr
      go_enter Tryd.func71, Tryd.ntmps71
      go_wp2_with (go_at_call 99; refine HF.out.mono ?_; rintro e w' ⟨rfl, hr1, hk1⟩)
      exact ⟨rfl, rfl, hr1, hk1⟩
    · rw [hr] at hf
      have HF := hid hf
      clear hf hr
      go_enter Tryd.func71, Tryd.ntmps71
      go_wp2_with (first | (go_at_call 99; refine HF.out.mono ?_; rintro e w' ⟨rfl, hr1, hk1⟩) | (go_at_call 54; refine (give_any _ _).mono ?_; rintro e w' ⟨rfl, rfl⟩))
      exact ⟨rfl, rfl, hr1, hk1⟩
end Go.Proofs.YthdmjmnkhlpnnaaDoor
