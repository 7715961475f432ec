/-
  The frame: how it begins, the number behind the blocks, what is wrong at its end.
-/
import Derived.Test.YthdmjmnkhlpnnaaDoorAdler
import Derived.Test.YthdmjmnkhlpnnaaDoorReads
import Derived.Test.YthdmjmnkhlpnnaaDoorAsis
import Derived.Laws.BitsAllLaws
import Derived.Laws.BitsLemmas
import Derived.Deep.DeepCutAuto
namespace Go.Proofs.YthdmjmnkhlpnnaaDoor
open Go.RowKit

/-- may a frame begin with these two bytes? -/
def okH (a b : Nat) : Bool := decide (a % 16 = 8) && (decide (a / 16 ≤ 7) && (decide (b / 32 % 2 = 0) && decide ((256 * a + b) % 31 = 0)))

theorem or_256 (x y : Nat) (hx : x < 65536) (hy : y < 256) : bits BinOp.or IntKind.i64 ((x : Int) * 256) (y : Int) = ((256 * x + y : Nat) : Int) := by
  have e2 : (2 : Nat) ^ 62 = 4611686018427387904 := by decide
  have h := (bits_nat .i64 62 (by decide) wraps_i64 (x * 256) y (by omega) (by omega)).2
  have e3 : x * 256 ||| y = 256 * x + y := by
    have := Nat.two_pow_add_eq_or_of_lt (i := 8) (b := y) (by omega) x
    rw [show (2 : Nat) ^ 8 = 256 from rfl] at this
    rw [Nat.mul_comm, ← this]
  rw [e3] at h
  have e4 : ((x * 256 : Nat) : Int) = (x : Int) * 256 := by omega
  rw [e4] at h
  exact h
theorem and_1 (y : Nat) (hy : y < 256) : bits BinOp.and IntKind.u8 ((y : Int) / 32) 1 = ((y / 32 % 2 : Nat) : Int) := by
  have h := u8_and_nat (y / 32) 1 (by omega) (by omega)
  rw [Nat.and_one_is_mod] at h
  rw [← h]
  congr 1
set_option maxHeartbeats 800000 in
theorem isBegin_any (a b : UInt8) (w : World) :
    Calls Tryd.prog 43 #[.int .u8 a.toNat, .int .u8 b.toNat] w fun e w' => e = .returned (.bool (okH a.toNat b.toNat)) ∧ w = w' := by
  have ha' : a.toNat < 256 := a.toNat_lt
  have hb' : b.toNat < 256 := b.toNat_lt
  generalize a.toNat = x at ha' ⊢
  generalize b.toNat = y at hb' ⊢
  have b1 : bits BinOp.and IntKind.u8 (x : Int) 15 = (x : Int) % 16 := u8_and15 _ (by omega) (by omega)
  have b2 := and_1 y hb'
  have b3 := or_256 x y (by omega) hb'
  go_enter Tryd.func43, Tryd.ntmps43
  go_wp2
  all_goals
    go_ret
    refine ⟨?_, rfl⟩
    refine congrArg (fun b => Ending.returned (.bool b)) ?_
    unfold okH
    rw [Bool.eq_iff_iff]
    simp
    omega

/-- a number of four bytes, the highest first, when k are read -/
def num4 (s : ByteArray) : Nat → Nat
  | 0 => 0
  | k + 1 => 256 * num4 s k + byt s k
theorem num4_lt (s : ByteArray) (k : Nat) : num4 s k < 256 ^ k := by
  induction k with
  | zero => simp [num4]
  | succ k ih =>
    have := byt_lt s k
    rw [num4, Nat.pow_succ]
    omega
theorem num4_bound (s : ByteArray) (k : Nat) (h : k ≤ 3) : num4 s k < 16777216 := by
  have h1 := num4_lt s k
  have h2 : 256 ^ k ≤ 256 ^ 3 := Nat.pow_le_pow_right (by omega) h
  have h3 : (256 : Nat) ^ 3 = 16777216 := by decide
  omega
theorem or_u32 (x y : Nat) (hx : x < 16777216) (hy : y < 256) : bits BinOp.or IntKind.u32 ((x : Int) * 256) (y : Int) = ((256 * x + y : Nat) : Int) := by
  have h := u32_or_nat (x * 256) y (by omega) (by omega)
  have e3 : x * 256 ||| y = 256 * x + y := by
    have := Nat.two_pow_add_eq_or_of_lt (i := 8) (b := y) (by omega) x
    rw [show (2 : Nat) ^ 8 = 256 from rfl] at this
    rw [Nat.mul_comm, ← this]
  rw [e3] at h
  have e4 : ((x * 256 : Nat) : Int) = (x : Int) * 256 := by omega
  rw [e4] at h
  exact h

set_option maxHeartbeats 800000 in
theorem fnumber_any (s : ByteArray) (w : World) (hs : s.size = 4) :
    Calls Tryd.prog 44 #[.string s] w fun e w' => e = .returned (.int .u32 (num4 s 4)) ∧ w = w' := by
  have HS := hid hs
  have hs1 : s.size ≤ 4 := by omega
  clear hs
  go_enter Tryd.func44, Tryd.ntmps44
  go_wp2
  go_loop [3, 7] (fun n i => ∃ (k x : Nat), k ≤ s.size ∧ i = .int .i64 k ∧ Hid (x = num4 s k) ∧ n = .int .u32 x) (fun _ i => s.size - (intOf i).toNat)
  case atStart => exact ⟨0, 0, Nat.zero_le _, rfl, rfl, rfl⟩
  case round =>
    obtain ⟨k, x, hk, rfl, HX, rfl⟩ := hrel
    by_cases hlt : k < s.size
    · have hx : x < 16777216 := by rw [HX.out]; exact num4_bound s k (by omega)
      have hb : s[k].toNat < 256 := s[k].toNat_lt
      have b1 := or_u32 x s[k].toNat hx hb
      have HN : Hid (256 * x + s[k].toNat = num4 s (k + 1)) := by show _ = _; rw [num4, HX.out, byt_get s k hlt]
      go_wp2
      go_round
      case rel => exact ⟨k + 1, 256 * x + s[k].toNat, by omega, by go_num, HN, by go_num⟩
      case measure => simp [intOf]; omega
    · have HE : Hid (k = 4) := by show k = 4; have := HS.out; omega
      go_wp2
      go_ret
      refine ⟨ret_int ?_, rfl⟩
      rw [HX.out, HE.out]

/-- what is wrong with how a frame begins -/
def bgF (s : ByteArray) : Nat := if s.size < 2 then 1 else if okH (byt s 0) (byt s 1) = true then 0 else 7
set_option maxHeartbeats 800000 in
theorem begin_any (s : ByteArray) (w : World) (hs : s.size ≤ 1048576) :
    Calls Tryd.prog 24 #[.string s] w fun e w' => e = .returned (.int .i64 (bgF s)) ∧ ∃ n, w' = w.drewN n := by
  by_cases h2 : s.size < 2
  · have HB : Hid (bgF s = 1) := by show _ = _; unfold bgF; rw [if_pos h2]
    go_enter Tryd.func24, Tryd.ntmps24
    go_wp2
    go_ret
    rw [HB.out]
    exact ⟨rfl, 0, rfl⟩
  · have h0 : 0 < s.size := by omega
    have h1 : 1 < s.size := by omega
    have h1a : (1 : Int) < (s.size : Int) := by omega
    have h1b : decide ((1 : Int) < (s.size : Int)) = true := by simp; omega
    have h1c : ¬ s.size ≤ 1 := by omega
    have h1d : ¬ (s.size : Int) ≤ 1 := by omega
    have HI : Hid (∀ u : World, Calls Tryd.prog 43 #[.int .u8 s[0].toNat, .int .u8 s[1].toNat] u fun e w' => e = .returned (.bool (okH s[0].toNat s[1].toNat)) ∧ w' = u) := fun u => (isBegin_any s[0] s[1] u).mono fun e w' ⟨h1, h2⟩ => ⟨h1, h2.symm⟩
    have HB : Hid (bgF s = if okH s[0].toNat s[1].toNat = true then 0 else 7) := by show _ = _; unfold bgF; rw [if_neg h2, byt_get s 0 h0, byt_get s 1 h1]
    rw [HB.out]
    obtain ⟨b, hb⟩ : ∃ b, b = okH s[0].toNat s[1].toNat := ⟨_, rfl⟩
    rw [← hb] at HI ⊢
    clear hb HB
    cases b
    · go_enter Tryd.func24, Tryd.ntmps24
      go_wp2
      go_quiet ((go_at_call 43; refine Calls.quiet_of_same (HI.out _)))
      go_wp2
      go_ret
      exact ⟨rfl, _, rfl⟩
    · go_enter Tryd.func24, Tryd.ntmps24
      go_wp2
      go_quiet ((go_at_call 43; refine Calls.quiet_of_same (HI.out _)))
      go_wp2
      go_ret
      exact ⟨rfl, _, rfl⟩

/-- the sum of a text -/
def adS (l : List UInt8) : Nat := 65536 * (adl l).2 + (adl l).1
/-- what is wrong behind the blocks of a frame -/
def enF (s t : ByteArray) : Nat := if s.size < 4 then 1 else if num4 s 4 = adS t.data.toList then if 4 < s.size then 7 else 0 else 8
theorem extract_size (s : ByteArray) (a b : Nat) (hb : b ≤ s.size) : (s.extract a b).size = b - a := by
  rw [ByteArray.size_extract]
  omega
theorem byt_extract (s : ByteArray) (a b k : Nat) (hb : b ≤ s.size) (hk : a + k < b) : byt (s.extract a b) k = byt s (a + k) := by
  rw [byt_get _ k (by rw [extract_size s a b hb]; omega), byt_get _ (a + k) (by omega), ByteArray.getElem_extract]
theorem num4_extract (s : ByteArray) (k : Nat) (h : 4 ≤ s.size) (hk : k ≤ 4) : num4 (s.extract 0 4) k = num4 s k := by
  induction k with
  | zero => rfl
  | succ k ih => rw [num4, num4, ih (by omega), byt_extract s 0 4 k h (by omega), Nat.zero_add]
theorem adS_int (l : List UInt8) : ((adS l : Nat) : Int) = 65536 * ((adl l).2 : Int) + ((adl l).1 : Int) := by
  unfold adS
  omega
theorem adS_lt (l : List UInt8) : adS l < 4294967296 := by
  have := adl_lt l
  unfold adS
  omega

set_option maxHeartbeats 800000 in
theorem end_any (s t : ByteArray) (w : World) (hs : s.size ≤ 1048576) (ht : t.size ≤ maxLen) :
    Calls Tryd.prog 25 #[.string s, .string t] w fun e w' => e = .returned (.int .i64 (enF s t)) ∧ ∃ n, w' = w.drewN n := by
  by_cases h4 : s.size < 4
  · have HB : Hid (enF s t = 1) := by show _ = _; unfold enF; rw [if_pos h4]
    clear ht
    go_enter Tryd.func25, Tryd.ntmps25
    go_wp2
    go_ret
    rw [HB.out]
    exact ⟨rfl, 0, rfl⟩
  · have h4a : 4 ≤ s.size := by omega
    have h4b : (4 : Int) ≤ (s.size : Int) := by omega
    obtain ⟨A, hA⟩ : ∃ A, A = adS t.data.toList := ⟨_, rfl⟩
    obtain ⟨N, hN⟩ : ∃ N, N = num4 s 4 := ⟨_, rfl⟩
    have HNU : Hid (∀ u : World, Calls Tryd.prog 44 #[.string (s.extract 0 4)] u fun e w' => e = .returned (.int .u32 N) ∧ u = w') := fun u => (fnumber_any (s.extract 0 4) u (extract_size s 0 4 h4a)).mono fun e w' ⟨h1, h2⟩ => ⟨by rw [h1, num4_extract s 4 h4a (Nat.le_refl _), hN], h2⟩
    have HSU : Hid (∀ u : World, Calls Tryd.prog 45 #[.string t] u fun e w' => e = .returned (.int .u32 A) ∧ u = w') := fun u => (sumof_any t u ht).mono fun e w' ⟨h1, h2⟩ => ⟨by rw [h1, hA, adS_int], h2⟩
    have HB : Hid (enF s t = if N = A then if 4 < s.size then 7 else 0 else 8) := by show _ = _; unfold enF; rw [if_neg h4, ← hA, ← hN]
    rw [HB.out]
    clear hA hN ht HB
    by_cases hNA : N = A
    · subst hNA
      rw [if_pos rfl]
      have b1 : ((N : Int) != (N : Int)) = false := by simp
      by_cases h5 : 4 < s.size
      · rw [if_pos h5]
        go_enter Tryd.func25, Tryd.ntmps25
        go_wp2_with (first | (go_at_call 44; refine (HNU.out _).mono ?_; rintro e w1 ⟨rfl, rfl⟩) | (go_at_call 45; refine (HSU.out _).mono ?_; rintro e w1 ⟨rfl, rfl⟩))
        go_ret
        exact ⟨rfl, 0, rfl⟩
      · rw [if_neg h5]
        go_enter Tryd.func25, Tryd.ntmps25
        go_wp2_with (first | (go_at_call 44; refine (HNU.out _).mono ?_; rintro e w1 ⟨rfl, rfl⟩) | (go_at_call 45; refine (HSU.out _).mono ?_; rintro e w1 ⟨rfl, rfl⟩))
        go_ret
        exact ⟨rfl, 0, rfl⟩
    · rw [if_neg hNA]
      have b1 : ((N : Int) != (A : Int)) = true := by rw [bne_iff_ne]; omega
      go_enter Tryd.func25, Tryd.ntmps25
      go_wp2_with (first | (go_at_call 44; refine (HNU.out _).mono ?_; rintro e w1 ⟨rfl, rfl⟩) | (go_at_call 45; refine (HSU.out _).mono ?_; rintro e w1 ⟨rfl, rfl⟩))
      go_ret
      exact ⟨rfl, 0, rfl⟩
end Go.Proofs.YthdmjmnkhlpnnaaDoor
