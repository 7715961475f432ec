/-
  The document's reader: what letters and steps stand for; a symbol when something is wrong already.
-/
import Derived.Test.YthdmjmnkhlpnnaaDoorRpl
namespace Go.Proofs.YthdmjmnkhlpnnaaDoor
open Go.RowKit

set_option maxRecDepth 20000 in
set_option maxHeartbeats 1600000 in
theorem rsym_err (w : World) (B : Nat) (s : ByteArray) (p : Nat) (tv : Value) (t : List UInt8) (M : Int) (E : Nat) (zs : List Int) (so : Option Addr) (n sc : Nat) (h : Rf w B s p tv t M E) (hE : E ≠ 0) :
    Calls Tryd.prog 38 #[.pointer (some ⟨B, 0, none⟩), .agg (cd4 (cF zs) (fun j => cnt zs j) (cA zs) (.slice so n sc))] w fun e w' => e = .returned (.int .i64 0) ∧ Rf w' B s p tv t M E ∧ Kp 42 B w w' := by
  have hlt := h.lt
  obtain ⟨o, ho⟩ : ∃ o : Obj, o = Obj.cells (cd4 (cF zs) (fun j => (cnt zs j : Int)) (cA zs) (.slice so n sc)) 47 := ⟨_, rfl⟩
  have HR0 := hid (h.alloc o)
  have HK0 : Hid (Kp 42 B w (w.alloc o)) := (Kp.refl _ _ _).alloc (Nat.le_of_lt hlt) o
  have hb0 : ((E : Int) == 0) = false := by rw [beq_eq_false_iff_ne]; omega
  have hb1 : ((E : Int) != 0) = true := by rw [bne_iff_ne]; omega
  have e4 := HR0.out.cell.2.2.2.2.1
  clear h
  go_enter Tryd.func38, Tryd.ntmps38
  go_wp2
  rw [← ho]
  clear ho
  go_loopw [5, 6] (fun vv nv wr => vv = .int .i64 0 ∧ nv = .int .i64 1 ∧ wr = w.alloc o) (fun _ _ _ => 0)
  case atStart => exact ⟨rfl, rfl, rfl⟩
  case round =>
    obtain ⟨rfl, rfl, rfl⟩ := hrel
    go_wp2_with (go_at_call 17; refine (rbit_err _ _ _ _ _ _ _ _ HR0.out hE).mono ?_; rintro e w2 ⟨rfl, rfl⟩)
    go_ret
    exact ⟨rfl, HR0.out, HK0.out⟩

/-- what the document's reader adds up for the k-th of a row -/
def spr (g f : Nat) : Nat → Nat × Nat
  | 0 => (f, 0)
  | k + 1 => ((spr g f k).1 + 2 ^ (spr g f k).2, if 2 * g ≤ k + 1 ∧ (k + 1) % g = 0 then (spr g f k).2 + 1 else (spr g f k).2)
theorem spr_agn : ∀ k, k ≤ 28 → k ≠ 28 → spr 4 3 k = agn k := by decide
theorem spr_bck : ∀ k, k ≤ 29 → spr 2 1 k = bck k := by decide
theorem spr_le4 : ∀ k, k ≤ 29 → (spr 4 3 k).1 ≤ 100000 ∧ (spr 4 3 k).2 ≤ 14 := by decide
theorem spr_le2 : ∀ k, k ≤ 29 → (spr 2 1 k).1 ≤ 100000 ∧ (spr 2 1 k).2 ≤ 14 := by decide

set_option maxHeartbeats 800000 in
theorem spread_any (w : World) (i g f : Nat) (hi : i ≤ 29) (hg : g = 2 ∨ g = 4) (hb : ∀ k, k ≤ 29 → (spr g f k).1 ≤ 100000 ∧ (spr g f k).2 ≤ 14) :
    Calls Tryd.prog 56 #[.int .i64 i, .int .i64 g, .int .i64 f] w fun e w' => e = .returned (.tuple #[.int .i64 (spr g f i).1, .int .i64 (spr g f i).2]) ∧ w = w' := by
  have HB := hid hb
  have g2 : 2 ≤ g := by omega
  have g4 : g ≤ 4 := by omega
  clear hb hg
  go_enter Tryd.func56, Tryd.ntmps56
  go_wp2
  go_loop [8, 9, 10] (fun bv vv kv => ∃ (k b v : Nat), k ≤ i ∧ kv = .int .i64 k ∧ bv = .int .i64 b ∧ vv = .int .i64 v ∧ Hid (spr g f k = (v, b))) (fun _ _ kv => i - (intOf kv).toNat)
  case atStart => exact ⟨0, 0, f, by omega, rfl, rfl, rfl, rfl⟩
  case round =>
    obtain ⟨k, b, v, hk, rfl, rfl, rfl, hS⟩ := hrel
    have hB := HB.out k (by omega)
    rw [hS.out] at hB
    simp only at hB
    obtain ⟨hv, hb⟩ := hB
    by_cases hlt : k < i
    · obtain ⟨x, hx⟩ : ∃ x : Nat, x = 2 ^ b := ⟨_, rfl⟩
      have hx2 : x ≤ 32768 := by rw [hx]; exact Nat.le_trans (Nat.pow_le_pow_right (by omega) hb) (by decide)
      have HX := hid hx
      clear hx
      by_cases h1 : 2 * g ≤ k + 1
      · have b1 : decide (2 * (g : Int) ≤ (k : Int) + 1) = true := by simp; omega
        by_cases h2 : (k + 1) % g = 0
        · have b2 : (((k : Int) + 1) % (g : Int) == 0) = true := by
            rw [beq_iff_eq]
            have : (((k + 1) % g : Nat) : Int) = 0 := by rw [h2]; rfl
            rw [← this]; simp
          go_wp2_with (go_at_call 35; refine (power_any _ _ (by omega) (by omega)).mono ?_; rintro e w2 ⟨rfl, rfl⟩; rw [show ((b : Int)).toNat = b by omega, ← HX.out])
          have HN : Hid (spr g f (k + 1) = (v + x, b + 1)) := by show _ = _; rw [spr, hS.out, if_pos ⟨h1, h2⟩, HX.out]
          exact ⟨⟨k + 1, b + 1, v + x, by omega, by go_num, by go_num, by go_num, HN⟩, by simp [intOf]; omega⟩
        · have b2 : (((k : Int) + 1) % (g : Int) == 0) = false := by
            rw [beq_eq_false_iff_ne]
            have : (((k + 1) % g : Nat) : Int) ≠ 0 := by omega
            simpa using this
          have HN : Hid (spr g f (k + 1) = (v + x, b)) := by show _ = _; rw [spr, hS.out, if_neg (fun h => h2 h.2), HX.out]
          go_wp2_with (go_at_call 35; refine (power_any _ _ (by omega) (by omega)).mono ?_; rintro e w2 ⟨rfl, rfl⟩; rw [show ((b : Int)).toNat = b by omega, ← HX.out])
          exact ⟨⟨k + 1, b, v + x, by omega, by go_num, by go_num, by go_num, HN⟩, by simp [intOf]; omega⟩
      · have b1 : decide (2 * (g : Int) ≤ (k : Int) + 1) = false := by simp; omega
        have HN : Hid (spr g f (k + 1) = (v + x, b)) := by show _ = _; rw [spr, hS.out, if_neg (fun h => h1 h.1), HX.out]
        go_wp2_with (go_at_call 35; refine (power_any _ _ (by omega) (by omega)).mono ?_; rintro e w2 ⟨rfl, rfl⟩; rw [show ((b : Int)).toNat = b by omega, ← HX.out])
        exact ⟨⟨k + 1, b, v + x, by omega, by go_num, by go_num, by go_num, HN⟩, by simp [intOf]; omega⟩
    · obtain rfl : k = i := by omega
      go_wp2
      go_ret2
      rw [hS.out]
      exact ⟨rfl, rfl⟩
end Go.Proofs.YthdmjmnkhlpnnaaDoor
