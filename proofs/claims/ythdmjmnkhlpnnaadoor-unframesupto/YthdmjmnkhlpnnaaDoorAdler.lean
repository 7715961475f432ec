/-
  The two sums of a text: what sum.Of, bale.Sum and baleref.Sum answer, at every text.
-/
import Derived.Test.YthdmjmnkhlpnnaaDoorState
import Derived.WalkKit
import Derived.WalkSpells
import Derived.WalkLawsBesides
namespace Go.Proofs.YthdmjmnkhlpnnaaDoor
open Go.RowKit

/-- the two numbers behind the bytes of a text -/
def adl (l : List UInt8) : Nat × Nat := l.foldl (fun p c => ((p.1 + c.toNat) % 65521, (p.2 + (p.1 + c.toNat) % 65521) % 65521)) (1, 0)
theorem adl_lt (l : List UInt8) : (adl l).1 < 65521 ∧ (adl l).2 < 65521 := by
  rcases List.eq_nil_or_concat l with rfl | ⟨l', c, rfl⟩
  · simp [adl]
  · simp only [adl, List.concat_eq_append, List.foldl_append, List.foldl_cons, List.foldl_nil]; omega
theorem adl_snoc (l : List UInt8) (c : UInt8) : adl (l ++ [c]) = (((adl l).1 + c.toNat) % 65521, ((adl l).2 + ((adl l).1 + c.toNat) % 65521) % 65521) := by
  simp [adl]
theorem take_snoc (s : ByteArray) (k : Nat) (h : k < s.size) : s.data.toList.take (k + 1) = s.data.toList.take k ++ [s[k]] := by
  rw [List.take_succ_eq_append_getElem (by simpa using h)]; rfl
theorem or_add (y x c : Nat) (hc : c = 2 ^ 16) (hx : x < c) : y * c ||| x = y * c + x := by
  subst hc
  rw [← Nat.shiftLeft_eq]
  exact (Nat.shiftLeft_add_eq_or_of_lt (a := y) (b := x) (i := 16) hx).symm
theorem or_shift (y x : Nat) (hy : y < 65536) (hx : x < 65536) : bits BinOp.or IntKind.u32 (↑y * 65536) ↑x = 65536 * (y : Int) + x := by
  have h := u32_or_nat (y * 65536) x (by omega) (by omega)
  have h2 := or_add y x 65536 (by decide) hx
  have e : ((y * 65536 : Nat) : Int) = (y : Int) * 65536 := by omega
  rw [e] at h
  have e2 : ((y * 65536 ||| x : Nat) : Int) = 65536 * (y : Int) + x := by
    generalize y * 65536 ||| x = z at *
    omega
  exact h.trans e2

set_option maxHeartbeats 400000 in
theorem refsum_any (s : ByteArray) (w : World) (hs : s.size ≤ maxLen) :
    Calls Tryd.prog 26 #[.string s] w fun e w' => e = .returned (.int .i64 (65536 * (adl s.data.toList).2 + (adl s.data.toList).1)) ∧ w = w' := by
  unfold maxLen at hs
  go_enter Tryd.func26, Tryd.ntmps26
  go_wp2
  go_loop [3, 4, 5] (fun a b i => ∃ k x y : Nat, k ≤ s.size ∧ i = .int .i64 k ∧ x < 65521 ∧ y < 65521 ∧ Hid (adl (s.data.toList.take k) = (x, y)) ∧ a = .int .i64 x ∧ b = .int .i64 y) (fun _ _ i => s.size - (intOf i).toNat)
  case atStart => exact ⟨0, 1, 0, Nat.zero_le _, rfl, by omega, by omega, rfl, rfl, rfl⟩
  case round =>
    obtain ⟨k, x, y, hk, rfl, hx, hy, HD, rfl, rfl⟩ := hrel
    by_cases hlt : k < s.size
    · have HS : Hid (adl (s.data.toList.take (k + 1)) = ((x + s[k].toNat) % 65521, (y + (x + s[k].toNat) % 65521) % 65521)) := by
        show _ = _
        rw [take_snoc s k hlt, adl_snoc, HD.out]
      have hb : s[k].toNat < 256 := s[k].toNat_lt
      go_wp2
      go_round
      case rel => exact ⟨k + 1, _, _, by omega, by go_num, by omega, by omega, HS, by go_num, by go_num⟩
      case measure => simp [intOf]; omega
    · go_wp2
      go_ret
      refine ⟨ret_int ?_, rfl⟩
      have := HD.out
      rw [List.take_of_length_le (by simp; omega)] at this
      rw [this]

set_option maxHeartbeats 400000 in
theorem sumof_any (s : ByteArray) (w : World) (hs : s.size ≤ maxLen) :
    Calls Tryd.prog 45 #[.string s] w fun e w' => e = .returned (.int .u32 (65536 * (adl s.data.toList).2 + (adl s.data.toList).1)) ∧ w = w' := by
  unfold maxLen at hs
  go_enter Tryd.func45, Tryd.ntmps45
  go_wp2
  go_loop [3, 4, 8] (fun a b i => ∃ k x y : Nat, k ≤ s.size ∧ i = .int .i64 k ∧ x < 65521 ∧ y < 65521 ∧ Hid (adl (s.data.toList.take k) = (x, y)) ∧ a = .int .u32 x ∧ b = .int .u32 y) (fun _ _ i => s.size - (intOf i).toNat)
  case atStart => exact ⟨0, 1, 0, Nat.zero_le _, rfl, by omega, by omega, rfl, rfl, rfl⟩
  case round =>
    obtain ⟨k, x, y, hk, rfl, hx, hy, HD, rfl, rfl⟩ := hrel
    by_cases hlt : k < s.size
    · have HS : Hid (adl (s.data.toList.take (k + 1)) = ((x + s[k].toNat) % 65521, (y + (x + s[k].toNat) % 65521) % 65521)) := by
        show _ = _
        rw [take_snoc s k hlt, adl_snoc, HD.out]
      have hb : s[k].toNat < 256 := s[k].toNat_lt
      go_wp2
      go_round
      case rel => exact ⟨k + 1, _, _, by omega, by go_num, by omega, by omega, HS, by go_num, by go_num⟩
      case measure => simp [intOf]; omega
    · go_wp2
      go_ret
      refine ⟨ret_int ?_, rfl⟩
      have := HD.out
      rw [List.take_of_length_le (by simp; omega)] at this
      rw [this]
      exact or_shift y x (by omega) (by omega)

end Go.Proofs.YthdmjmnkhlpnnaaDoor
