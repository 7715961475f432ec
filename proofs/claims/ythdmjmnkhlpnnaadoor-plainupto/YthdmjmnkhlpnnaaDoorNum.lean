/-
  What the program's reader reads: numbers, bytes; and what it adds to its text.
-/
import Derived.Test.YthdmjmnkhlpnnaaDoorState
import Derived.Deep.RegionWith
import Derived.RegionDies
namespace Go.Proofs.YthdmjmnkhlpnnaaDoor
open Go.RowKit

theorem shl_small (n : Nat) (hn : n ≤ 40) (b : Nat) (hb : b < 2) : wrap64 ((b : Int) * 2 ^ n) = (b : Int) * 2 ^ n := by
  have hp : 2 ^ n ≤ 2 ^ 40 := Nat.pow_le_pow_right (by omega) hn
  have hq : b * 2 ^ n ≤ 1 * 2 ^ n := Nat.mul_le_mul_right _ (by omega)
  have e1 : (2 : Nat) ^ 40 = 1099511627776 := by decide
  have e4 : ((b * 2 ^ n : Nat) : Int) = (b : Int) * 2 ^ n := by push_cast; rfl
  rw [← e4]
  exact w64 _ (by omega)
theorem int_eq {a b : Int} (h : a = b) : Value.int .i64 a = Value.int .i64 b := by rw [h]

set_option maxHeartbeats 800000 in
/-- a number that is there -/
theorem number_ok (w : World) (B : Nat) (s : ByteArray) (p : Nat) (tv : Value) (t : List UInt8) (M : Int) (fx : Option Addr) (h : Rd w B s p tv t M fx) (n : Nat) (hn : n ≤ 40) (hp : p + n ≤ 8 * s.size) :
    Calls Tryd.prog 33 #[.pointer (some ⟨B, 0, none⟩), .int .i64 n] w fun e w' => e = .returned (.int .i64 (val s p n)) ∧ Rd w' B s (p + n) tv t M fx ∧ Kp 63 B w w' := by
  have HR : Hid (Rd w B s p tv t M fx) := h
  clear h
  go_enter Tryd.func33, Tryd.ntmps33
  go_wp2
  go_loopw [5, 8] (fun v i wr => ∃ k : Nat, k ≤ n ∧ i = .int .i64 k ∧ v = .int .i64 (val s p k) ∧ Hid (Rd wr B s (p + k) tv t M fx) ∧ Kp 63 B w wr) (fun _ i _ => n - (intOf i).toNat)
  case atStart => exact ⟨0, by omega, rfl, rfl, HR, Kp.refl _ _ _⟩
  case round =>
    obtain ⟨k, hk, rfl, rfl, hr, hK⟩ := hrel
    by_cases hlt : k < n
    · have hv := val_lt s p k
      obtain ⟨v, hvv⟩ : ∃ v, v = val s p k := ⟨_, rfl⟩
      obtain ⟨b, hb⟩ : ∃ b, b = bitAt s (p + k) := ⟨_, rfl⟩
      have hb2 : b < 2 := by rw [hb]; exact bitAt_lt _ _
      have HV : Hid (bits .or .i64 (v : Int) (wrap64 ((b : Int) * 2 ^ k)) = (val s p (k + 1) : Int)) := by
        show _ = _
        rw [shl_small k (by omega) b hb2, or_low k (by omega) v b (by rw [hvv]; exact hv) hb2, hvv, hb]
        rfl
      rw [← hvv]
      have HB : Hid (b = bitAt s (p + k)) := hb
      clear hv hvv hb
      go_wp2_with (go_at_call 49; refine (next_ok _ _ _ _ _ _ _ _ hr.out (by omega)).mono ?_; rintro e w' ⟨rfl, hr1, hk1⟩; rw [← HB.out])
      exact ⟨⟨k + 1, by omega, by go_num, int_eq HV.out, hr1, hK.trans hk1⟩, by simp [intOf]; omega⟩
    · obtain rfl : k = n := by omega
      go_wp2
      go_ret
      exact ⟨rfl, hr.out, hK⟩

set_option maxHeartbeats 800000 in
/-- a number whose bits end -/
theorem number_no (w : World) (B : Nat) (s : ByteArray) (p : Nat) (tv : Value) (t : List UInt8) (M : Int) (fx : Option Addr) (h : Rd w B s p tv t M fx) (n : Nat) (hn : n ≤ 40) (hp : ¬ p + n ≤ 8 * s.size) :
    Calls Tryd.prog 33 #[.pointer (some ⟨B, 0, none⟩), .int .i64 n] w fun e w' => Gave B s tv t M fx 1 w e w' := by
  have HR : Hid (Rd w B s p tv t M fx) := h
  have hfit := h.fit
  clear h
  go_enter Tryd.func33, Tryd.ntmps33
  go_wp2
  go_loopw [5, 8] (fun v i wr => ∃ (k : Nat) (q : Int), k ≤ n ∧ p + k ≤ 8 * s.size ∧ i = .int .i64 k ∧ v = .int .i64 q ∧ Hid (Rd wr B s (p + k) tv t M fx) ∧ Kp 63 B w wr) (fun _ i _ => n - (intOf i).toNat)
  case atStart => exact ⟨0, 0, by omega, by omega, rfl, rfl, HR, Kp.refl _ _ _⟩
  case round =>
    obtain ⟨k, q, hk, hkp, rfl, rfl, hr, hK⟩ := hrel
    have hlt : k < n := by omega
    by_cases hb : p + k < 8 * s.size
    · go_wp2_with (go_at_call 49; refine (next_ok _ _ _ _ _ _ _ _ hr.out hb).mono ?_; rintro e w' ⟨rfl, hr1, hk1⟩)
      exact ⟨⟨k + 1, _, by omega, by omega, by go_num, rfl, hr1, hK.trans hk1⟩, by simp [intOf]; omega⟩
    · go_wp2_with (go_at_call 49; refine (next_no _ _ _ _ _ _ _ _ hr.out hb).mono ?_; rintro e w' ⟨rfl, hr1, hk1⟩)
      exact ⟨rfl, rfl, hr1, hK.trans hk1⟩

set_option maxHeartbeats 800000 in
/-- which number of a span -/
theorem within_ok (w : World) (B : Nat) (s : ByteArray) (p : Nat) (tv : Value) (t : List UInt8) (M : Int) (fx : Option Addr) (h : Rd w B s p tv t M fx) (l n : Nat) (hl : l ≤ 100000) (hn : n ≤ 16) (hp : p + n ≤ 8 * s.size) :
    Calls Tryd.prog 73 #[.pointer (some ⟨B, 0, none⟩), .agg #[.int .i64 l, .int .i64 n]] w fun e w' => e = .returned (.int .i64 ((l + val s p n : Nat) : Int)) ∧ Rd w' B s (p + n) tv t M fx ∧ Kp 63 B w w' := by
  have hr := h.alloc (.cells #[.int .i64 l, .int .i64 n] 118)
  have hk0 := (Kp.refl 63 B w).alloc (Nat.le_of_lt h.lt) (.cells #[.int .i64 l, .int .i64 n] 118)
  have hnew : (w.alloc (.cells #[.int .i64 l, .int .i64 n] 118)).heap[w.heap.size]? = some (.cells #[.int .i64 l, .int .i64 n] 118 (0, 0)) := heap_alloc_new w _
  have hv := val_lt s p n
  have hv2 : 2 ^ n ≤ 2 ^ 16 := Nat.pow_le_pow_right (by omega) hn
  have hv3 : (2 : Nat) ^ 16 = 65536 := by decide
  have hvv : val s p n ≤ 65536 := by omega
  have HR := hid hr
  have HN := hid hnew
  clear hv hv2 hv3 hr hnew
  go_enter Tryd.func73, Tryd.ntmps73
  go_wp2_with fail
  go_region_with ((go_at_call 33; refine (number_ok _ _ _ _ _ _ _ _ (by first | exact HR.out.drew | exact HR.out) n (by omega) hp).mono ?_; rintro e w' ⟨rfl, hr1, hk1⟩; have m0 : w'.cell? ⟨w.heap.size, 0, none⟩ = some (.int .i64 l) := (cell_of_row w' w.heap.size 0 _ 118 (0, 0) (hk1.cells HN.out (by decide) (by decide)))))
  all_goals go_wp2
  all_goals go_ret
  all_goals
    show Ending.returned (.int .i64 (IntKind.i64.wrap ((l : Int) + (val s p n : Int)))) = _ ∧ _
    exact ⟨ret_int (by rw [IntKind.wrap_i64]; omega), hr1, hk0.drew.trans hk1⟩

set_option maxHeartbeats 800000 in
/-- which number of a span: its bits end -/
theorem within_no (w : World) (B : Nat) (s : ByteArray) (p : Nat) (tv : Value) (t : List UInt8) (M : Int) (fx : Option Addr) (h : Rd w B s p tv t M fx) (l n : Nat) (hn : n ≤ 16) (hp : ¬ p + n ≤ 8 * s.size) :
    Calls Tryd.prog 73 #[.pointer (some ⟨B, 0, none⟩), .agg #[.int .i64 l, .int .i64 n]] w fun e w' => Gave B s tv t M fx 1 w e w' := by
  have hr := h.alloc (.cells #[.int .i64 l, .int .i64 n] 118)
  have hk0 := (Kp.refl 63 B w).alloc (Nat.le_of_lt h.lt) (.cells #[.int .i64 l, .int .i64 n] 118)
  have HR := hid hr
  clear hr
  go_enter Tryd.func73, Tryd.ntmps73
  go_wp2_with fail
  go_region_dies
  all_goals (try (go_at_call 33; refine (number_no _ _ _ _ _ _ _ _ (by first | exact HR.out.drew | exact HR.out) n (by omega) hp).mono ?_; rintro e w' ⟨rfl, hr1, hk1⟩))
  all_goals exact ⟨rfl, rfl, hr1, hk0.drew.trans hk1⟩

set_option maxHeartbeats 800000 in
/-- the rest of a byte is passed -/
theorem endByte_any (w : World) (B : Nat) (s : ByteArray) (p : Nat) (tv : Value) (t : List UInt8) (M : Int) (fx : Option Addr) (h : Rd w B s p tv t M fx) :
    Calls Tryd.prog 68 #[.pointer (some ⟨B, 0, none⟩)] w fun e w' => e = .returned (.tuple #[]) ∧ Rd w' B s ((p + 7) / 8 * 8) tv t M fx ∧ Kp 63 B w w' := by
  obtain ⟨-, c1, c2, -, -, -⟩ := h.cell
  have f1 := h.free 1
  have f2 := h.free 2
  have hs := h.sml
  have hfit := h.fit
  obtain ⟨a, ha⟩ : ∃ a, a = p / 8 := ⟨_, rfl⟩
  obtain ⟨b, hb⟩ : ∃ b, b = p % 8 := ⟨_, rfl⟩
  rw [← ha] at c1
  rw [← hb] at c2
  have hb8 : b < 8 := by omega
  have has : a ≤ s.size := by omega
  have HA : Hid (a = p / 8) := ha
  have HB : Hid (b = p % 8) := hb
  clear ha hb
  by_cases h0 : 0 < b
  · go_enter Tryd.func68, Tryd.ntmps68
    go_wp2
    go_end0
    have h1 := HA.out
    have h2 := HB.out
    refine ⟨rfl, ⟨?_, own_set (own_set h.own rfl _) rfl _, h.sml, by omega, h.len, by have := h.rom; omega⟩, ((Kp.refl 63 B w).setCell h.blk rfl _).setCell (blk_set h.blk _ _) rfl _⟩
    rw [blk_set (blk_set h.blk _ _) _ _]
    have e1 : (p + 7) / 8 * 8 / 8 = a + 1 := by omega
    have e2 : (p + 7) / 8 * 8 % 8 = 0 := by omega
    rw [e1, e2]
    rfl
  · go_enter Tryd.func68, Tryd.ntmps68
    go_wp2
    go_end0
    have h1 := HA.out
    have h2 := HB.out
    rw [show (p + 7) / 8 * 8 = p by omega]
    exact ⟨rfl, h, Kp.refl _ _ _⟩

theorem byt_get (s : ByteArray) (a : Nat) (h : a < s.size) : byt s a = s[a].toNat := by
  unfold byt
  rw [List.getD_eq_getElem?_getD, List.getElem?_eq_getElem (by simpa using h)]
  rfl
/-- the byte itself -/
def byu (s : ByteArray) (i : Nat) : UInt8 := s.data.toList.getD i 0

set_option maxHeartbeats 800000 in
/-- a byte that is there -/
theorem nextByte_ok (w : World) (B : Nat) (s : ByteArray) (a : Nat) (tv : Value) (t : List UInt8) (M : Int) (fx : Option Addr) (h : Rd w B s (8 * a) tv t M fx) (hp : a < s.size) :
    Calls Tryd.prog 70 #[.pointer (some ⟨B, 0, none⟩)] w fun e w' => e = .returned (.int .u8 (byu s a).toNat) ∧ Rd w' B s (8 * (a + 1)) tv t M fx ∧ Kp 63 B w w' := by
  obtain ⟨c0, c1, -, -, -, -⟩ := h.cell
  have f1 := h.free 1
  have hs := h.sml
  rw [show 8 * a / 8 = a by omega] at c1
  have hne : ((a : Int) == (s.size : Int)) = false := beq_eq_false_iff_ne.2 (by omega)
  have b1 : (0 : Int) ≤ (a : Int) + 1 - 1 := by omega
  have b2 : (a : Int) + 1 - 1 < (s.size : Int) := by omega
  have e3 : ((a : Int) + 1 - 1).toNat = a := by omega
  go_enter Tryd.func70, Tryd.ntmps70
  go_wp2
  go_quiet (fail)
  go_wp2
  go_quiet (fail)
  go_wp2
  go_ret
  refine ⟨ret_int ?_, ⟨?_, own_set (h.drewN _).own rfl _, h.sml, by omega, h.len, by have := h.rom; omega⟩, ((((Kp.refl 63 B w).drewN _).setCell (h.drewN _).blk rfl _).drewN _)⟩
  · show ((s[a].toNat : Nat) : Int) = _
    rw [← byt_get s a hp]
    rfl
  · refine (blk_set (h.drewN _).blk _ _).trans ?_
    rw [show 8 * (a + 1) / 8 = a + 1 by omega, show 8 * (a + 1) % 8 = 8 * a % 8 by omega]
    rfl

set_option maxHeartbeats 800000 in
/-- a byte that is not there -/
theorem nextByte_no (w : World) (B : Nat) (s : ByteArray) (a : Nat) (tv : Value) (t : List UInt8) (M : Int) (fx : Option Addr) (h : Rd w B s (8 * a) tv t M fx) (hp : ¬ a < s.size) :
    Calls Tryd.prog 70 #[.pointer (some ⟨B, 0, none⟩)] w fun e w' => Gave B s tv t M fx 1 w e w' := by
  obtain ⟨c0, c1, -, -, -, -⟩ := h.cell
  have hs := h.sml
  have hfit := h.fit
  rw [show 8 * a / 8 = a by omega] at c1
  have hne : ((a : Int) == (s.size : Int)) = true := beq_iff_eq.2 (by omega)
  go_enter Tryd.func70, Tryd.ntmps70
  go_wp2
  go_quiet (fail)
  go_wp2_with (go_at_call 54; refine (give_any _ _).mono ?_; rintro e w' ⟨rfl, rfl⟩)
  exact ⟨rfl, rfl, ⟨_, h.drewN _⟩, (Kp.refl 63 B w).drewN _⟩
end Go.Proofs.YthdmjmnkhlpnnaaDoor
