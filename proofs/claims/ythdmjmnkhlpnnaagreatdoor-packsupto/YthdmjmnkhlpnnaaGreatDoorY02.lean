/-
  The two sums of a text: what sum.Of, bale.Sum and baleref.Sum answer, at every text.
-/
import Derived.Test.YthdmjmnkhlpnnaaGreatDoorZ01
import Derived.WalkKit
import Derived.WalkSpells
import Derived.WalkLawsBesides
import Derived.Test.YthdmjmnkhlpnnaaGreatDoorZ02
import Derived.Test.YthdmjmnkhlpnnaaGreatDoorZ13
import Derived.Laws.BitsAllLaws
import Derived.Laws.BitsLemmas
import Derived.Deep.DeepCutAuto
import Derived.Test.YthdmjmnkhlpnnaaGreatDoorZ15
import Derived.Test.YthdmjmnkhlpnnaaGreatDoorZ16
import Derived.Test.YthdmjmnkhlpnnaaGreatDoorZ03
import Derived.Test.YthdmjmnkhlpnnaaGreatDoorZ34
namespace Go.Proofs.YthdmjmnkhlpnnaaGreatDoor
open Go.RowKit

/-- the two numbers behind the bytes of a text -/
def adl (l : List UInt8) : Nat × Nat := l.foldl (fun p c => ((p.1 + c.toNat) % 65521, (p.2 + (p.1 + c.toNat) % 65521) % 65521)) (1, 0)
theorem adl_lt (l : List UInt8) : (adl l).1 < 65521 ∧ (adl l).2 < 65521 := by
  rcases List.eq_nil_or_concat l with rfl | ⟨l', c, rfl⟩
  · simp [adl]
  · simp only [adl, List.concat_eq_append, List.foldl_append, List.foldl_cons, List.foldl_nil]; omega
theorem adl_snoc (l : List UInt8) (c : UInt8) : adl (l ++ [c]) = (((adl l).1 + c.toNat) % 65521, ((adl l).2 + ((adl l).1 + c.toNat) % 65521) % 65521) := by
  simp [adl]
theorem take_snoc (s : ByteArray) (k : Nat) (h : k < s.size) : s.data.toList.take (k + 1) = s.data.toList.take k ++ [s[k]] := by
  rw [List.take_succ_eq_append_getElem (by simpa using h)]; rfl
theorem or_add (y x c : Nat) (hc : c = 2 ^ 16) (hx : x < c) : y * c ||| x = y * c + x := by
  subst hc
  rw [← Nat.shiftLeft_eq]
  exact (Nat.shiftLeft_add_eq_or_of_lt (a := y) (b := x) (i := 16) hx).symm
theorem or_shift (y x : Nat) (hy : y < 65536) (hx : x < 65536) : bits BinOp.or IntKind.u32 (↑y * 65536) ↑x = 65536 * (y : Int) + x := by
  have h := u32_or_nat (y * 65536) x (by omega) (by omega)
  have h2 := or_add y x 65536 (by decide) hx
  have e : ((y * 65536 : Nat) : Int) = (y : Int) * 65536 := by omega
  rw [e] at h
  have e2 : ((y * 65536 ||| x : Nat) : Int) = 65536 * (y : Int) + x := by
    generalize y * 65536 ||| x = z at *
    omega
  exact h.trans e2

set_option maxHeartbeats 400000 in
theorem refsum_any (s : ByteArray) (w : World) (hs : s.size ≤ maxLen) :
    Calls Tryz.prog 32 #[.string s] w fun e w' => e = .returned (.int .i64 (65536 * (adl s.data.toList).2 + (adl s.data.toList).1)) ∧ w = w' := by
  unfold maxLen at hs
  go_enter Tryz.func32, Tryz.ntmps32
  go_wp2
  go_loop [3, 4, 5] (fun a b i => ∃ k x y : Nat, k ≤ s.size ∧ i = .int .i64 k ∧ x < 65521 ∧ y < 65521 ∧ Hid (adl (s.data.toList.take k) = (x, y)) ∧ a = .int .i64 x ∧ b = .int .i64 y) (fun _ _ i => s.size - (intOf i).toNat)
  case atStart => exact ⟨0, 1, 0, Nat.zero_le _, rfl, by omega, by omega, rfl, rfl, rfl⟩
  case round =>
    obtain ⟨k, x, y, hk, rfl, hx, hy, HD, rfl, rfl⟩ := hrel
    by_cases hlt : k < s.size
    · have HS : Hid (adl (s.data.toList.take (k + 1)) = ((x + s[k].toNat) % 65521, (y + (x + s[k].toNat) % 65521) % 65521)) := by
        show _ = _
        rw [take_snoc s k hlt, adl_snoc, HD.out]
      have hb : s[k].toNat < 256 := s[k].toNat_lt
      go_wp2
      go_round
      case rel => exact ⟨k + 1, _, _, by omega, by go_num, by omega, by omega, HS, by go_num, by go_num⟩
      case measure => simp [intOf]; omega
    · go_wp2
      go_ret
      refine ⟨ret_int ?_, rfl⟩
      have := HD.out
      rw [List.take_of_length_le (by simp; omega)] at this
      rw [this]

set_option maxHeartbeats 400000 in
theorem sumof_any (s : ByteArray) (w : World) (hs : s.size ≤ maxLen) :
    Calls Tryz.prog 52 #[.string s] w fun e w' => e = .returned (.int .u32 (65536 * (adl s.data.toList).2 + (adl s.data.toList).1)) ∧ w = w' := by
  unfold maxLen at hs
  go_enter Tryz.func52, Tryz.ntmps52
  go_wp2
  go_loop [3, 4, 8] (fun a b i => ∃ k x y : Nat, k ≤ s.size ∧ i = .int .i64 k ∧ x < 65521 ∧ y < 65521 ∧ Hid (adl (s.data.toList.take k) = (x, y)) ∧ a = .int .u32 x ∧ b = .int .u32 y) (fun _ _ i => s.size - (intOf i).toNat)
  case atStart => exact ⟨0, 1, 0, Nat.zero_le _, rfl, by omega, by omega, rfl, rfl, rfl⟩
  case round =>
    obtain ⟨k, x, y, hk, rfl, hx, hy, HD, rfl, rfl⟩ := hrel
    by_cases hlt : k < s.size
    · have HS : Hid (adl (s.data.toList.take (k + 1)) = ((x + s[k].toNat) % 65521, (y + (x + s[k].toNat) % 65521) % 65521)) := by
        show _ = _
        rw [take_snoc s k hlt, adl_snoc, HD.out]
      have hb : s[k].toNat < 256 := s[k].toNat_lt
      go_wp2
      go_round
      case rel => exact ⟨k + 1, _, _, by omega, by go_num, by omega, by omega, HS, by go_num, by go_num⟩
      case measure => simp [intOf]; omega
    · go_wp2
      go_ret
      refine ⟨ret_int ?_, rfl⟩
      have := HD.out
      rw [List.take_of_length_le (by simp; omega)] at this
      rw [this]
      exact or_shift y x (by omega) (by omega)

end Go.Proofs.YthdmjmnkhlpnnaaGreatDoor

/-
  The frame: how it begins, the number behind the blocks, what is wrong at its end.
-/
namespace Go.Proofs.YthdmjmnkhlpnnaaGreatDoor
open Go.RowKit

/-- may a frame begin with these two bytes? -/
def okH (a b : Nat) : Bool := decide (a % 16 = 8) && (decide (a / 16 ≤ 7) && (decide (b / 32 % 2 = 0) && decide ((256 * a + b) % 31 = 0)))

theorem or_256 (x y : Nat) (hx : x < 65536) (hy : y < 256) : bits BinOp.or IntKind.i64 ((x : Int) * 256) (y : Int) = ((256 * x + y : Nat) : Int) := by
  have e2 : (2 : Nat) ^ 62 = 4611686018427387904 := by decide
  have h := (bits_nat .i64 62 (by decide) wraps_i64 (x * 256) y (by omega) (by omega)).2
  have e3 : x * 256 ||| y = 256 * x + y := by
    have := Nat.two_pow_add_eq_or_of_lt (i := 8) (b := y) (by omega) x
    rw [show (2 : Nat) ^ 8 = 256 from rfl] at this
    rw [Nat.mul_comm, ← this]
  rw [e3] at h
  have e4 : ((x * 256 : Nat) : Int) = (x : Int) * 256 := by omega
  rw [e4] at h
  exact h
theorem and_1 (y : Nat) (hy : y < 256) : bits BinOp.and IntKind.u8 ((y : Int) / 32) 1 = ((y / 32 % 2 : Nat) : Int) := by
  have h := u8_and_nat (y / 32) 1 (by omega) (by omega)
  rw [Nat.and_one_is_mod] at h
  rw [← h]
  congr 1
set_option maxHeartbeats 800000 in
theorem isBegin_any (a b : UInt8) (w : World) :
    Calls Tryz.prog 64 #[.int .u8 a.toNat, .int .u8 b.toNat] w fun e w' => e = .returned (.bool (okH a.toNat b.toNat)) ∧ w = w' := by
  have ha' : a.toNat < 256 := a.toNat_lt
  have hb' : b.toNat < 256 := b.toNat_lt
  generalize a.toNat = x at ha' ⊢
  generalize b.toNat = y at hb' ⊢
  have b1 : bits BinOp.and IntKind.u8 (x : Int) 15 = (x : Int) % 16 := u8_and15 _ (by omega) (by omega)
  have b2 := and_1 y hb'
  have b3 := or_256 x y (by omega) hb'
  go_enter Tryz.func64, Tryz.ntmps64
  go_wp2
  all_goals
    go_ret
    refine ⟨?_, rfl⟩
    refine congrArg (fun b => Ending.returned (.bool b)) ?_
    unfold okH
    rw [Bool.eq_iff_iff]
    simp
    omega

/-- a number of four bytes, the highest first, when k are read -/
def num4 (s : ByteArray) : Nat → Nat
  | 0 => 0
  | k + 1 => 256 * num4 s k + byt s k
theorem num4_lt (s : ByteArray) (k : Nat) : num4 s k < 256 ^ k := by
  induction k with
  | zero => simp [num4]
  | succ k ih =>
    have := byt_lt s k
    rw [num4, Nat.pow_succ]
    omega
theorem num4_bound (s : ByteArray) (k : Nat) (h : k ≤ 3) : num4 s k < 16777216 := by
  have h1 := num4_lt s k
  have h2 : 256 ^ k ≤ 256 ^ 3 := Nat.pow_le_pow_right (by omega) h
  have h3 : (256 : Nat) ^ 3 = 16777216 := by decide
  omega
theorem or_u32 (x y : Nat) (hx : x < 16777216) (hy : y < 256) : bits BinOp.or IntKind.u32 ((x : Int) * 256) (y : Int) = ((256 * x + y : Nat) : Int) := by
  have h := u32_or_nat (x * 256) y (by omega) (by omega)
  have e3 : x * 256 ||| y = 256 * x + y := by
    have := Nat.two_pow_add_eq_or_of_lt (i := 8) (b := y) (by omega) x
    rw [show (2 : Nat) ^ 8 = 256 from rfl] at this
    rw [Nat.mul_comm, ← this]
  rw [e3] at h
  have e4 : ((x * 256 : Nat) : Int) = (x : Int) * 256 := by omega
  rw [e4] at h
  exact h

set_option maxHeartbeats 800000 in
theorem fnumber_any (s : ByteArray) (w : World) (hs : s.size = 4) :
    Calls Tryz.prog 65 #[.string s] w fun e w' => e = .returned (.int .u32 (num4 s 4)) ∧ w = w' := by
  have HS := hid hs
  have hs1 : s.size ≤ 4 := by omega
  clear hs
  go_enter Tryz.func65, Tryz.ntmps65
  go_wp2
  go_loop [3, 7] (fun n i => ∃ (k x : Nat), k ≤ s.size ∧ i = .int .i64 k ∧ Hid (x = num4 s k) ∧ n = .int .u32 x) (fun _ i => s.size - (intOf i).toNat)
  case atStart => exact ⟨0, 0, Nat.zero_le _, rfl, rfl, rfl⟩
  case round =>
    obtain ⟨k, x, hk, rfl, HX, rfl⟩ := hrel
    by_cases hlt : k < s.size
    · have hx : x < 16777216 := by rw [HX.out]; exact num4_bound s k (by omega)
      have hb : s[k].toNat < 256 := s[k].toNat_lt
      have b1 := or_u32 x s[k].toNat hx hb
      have HN : Hid (256 * x + s[k].toNat = num4 s (k + 1)) := by show _ = _; rw [num4, HX.out, byt_get s k hlt]
      go_wp2
      go_round
      case rel => exact ⟨k + 1, 256 * x + s[k].toNat, by omega, by go_num, HN, by go_num⟩
      case measure => simp [intOf]; omega
    · have HE : Hid (k = 4) := by show k = 4; have := HS.out; omega
      go_wp2
      go_ret
      refine ⟨ret_int ?_, rfl⟩
      rw [HX.out, HE.out]

/-- what is wrong with how a frame begins -/
def bgF (s : ByteArray) : Nat := if s.size < 2 then 1 else if okH (byt s 0) (byt s 1) = true then 0 else 7
set_option maxHeartbeats 800000 in
theorem begin_any (s : ByteArray) (w : World) (hs : s.size ≤ 4194304) :
    Calls Tryz.prog 38 #[.string s] w fun e w' => e = .returned (.int .i64 (bgF s)) ∧ ∃ n, w' = w.drewN n := by
  by_cases h2 : s.size < 2
  · have HB : Hid (bgF s = 1) := by show _ = _; unfold bgF; rw [if_pos h2]
    go_enter Tryz.func38, Tryz.ntmps38
    go_wp2
    go_ret
    rw [HB.out]
    exact ⟨rfl, 0, rfl⟩
  · have h0 : 0 < s.size := by omega
    have h1 : 1 < s.size := by omega
    have h1a : (1 : Int) < (s.size : Int) := by omega
    have h1b : decide ((1 : Int) < (s.size : Int)) = true := by simp; omega
    have h1c : ¬ s.size ≤ 1 := by omega
    have h1d : ¬ (s.size : Int) ≤ 1 := by omega
    have HI : Hid (∀ u : World, Calls Tryz.prog 64 #[.int .u8 s[0].toNat, .int .u8 s[1].toNat] u fun e w' => e = .returned (.bool (okH s[0].toNat s[1].toNat)) ∧ w' = u) := fun u => (isBegin_any s[0] s[1] u).mono fun e w' ⟨h1, h2⟩ => ⟨h1, h2.symm⟩
    have HB : Hid (bgF s = if okH s[0].toNat s[1].toNat = true then 0 else 7) := by show _ = _; unfold bgF; rw [if_neg h2, byt_get s 0 h0, byt_get s 1 h1]
    rw [HB.out]
    obtain ⟨b, hb⟩ : ∃ b, b = okH s[0].toNat s[1].toNat := ⟨_, rfl⟩
    rw [← hb] at HI ⊢
    clear hb HB
    cases b
    · go_enter Tryz.func38, Tryz.ntmps38
      go_wp2
      go_quiet ((go_at_call 64; refine Calls.quiet_of_same (HI.out _)))
      go_wp2
      go_ret
      exact ⟨rfl, _, rfl⟩
    · go_enter Tryz.func38, Tryz.ntmps38
      go_wp2
      go_quiet ((go_at_call 64; refine Calls.quiet_of_same (HI.out _)))
      go_wp2
      go_ret
      exact ⟨rfl, _, rfl⟩

/-- the sum of a text -/
def adS (l : List UInt8) : Nat := 65536 * (adl l).2 + (adl l).1
/-- what is wrong behind the blocks of a frame -/
def enF (s t : ByteArray) : Nat := if s.size < 4 then 1 else if num4 s 4 = adS t.data.toList then if 4 < s.size then 7 else 0 else 8
theorem extract_size (s : ByteArray) (a b : Nat) (hb : b ≤ s.size) : (s.extract a b).size = b - a := by
  rw [ByteArray.size_extract]
  omega
theorem byt_extract (s : ByteArray) (a b k : Nat) (hb : b ≤ s.size) (hk : a + k < b) : byt (s.extract a b) k = byt s (a + k) := by
  rw [byt_get _ k (by rw [extract_size s a b hb]; omega), byt_get _ (a + k) (by omega), ByteArray.getElem_extract]
theorem num4_extract (s : ByteArray) (k : Nat) (h : 4 ≤ s.size) (hk : k ≤ 4) : num4 (s.extract 0 4) k = num4 s k := by
  induction k with
  | zero => rfl
  | succ k ih => rw [num4, num4, ih (by omega), byt_extract s 0 4 k h (by omega), Nat.zero_add]
theorem adS_int (l : List UInt8) : ((adS l : Nat) : Int) = 65536 * ((adl l).2 : Int) + ((adl l).1 : Int) := by
  unfold adS
  omega
theorem adS_lt (l : List UInt8) : adS l < 4294967296 := by
  have := adl_lt l
  unfold adS
  omega

set_option maxHeartbeats 800000 in
theorem end_any (s t : ByteArray) (w : World) (hs : s.size ≤ 4194304) (ht : t.size ≤ maxLen) :
    Calls Tryz.prog 39 #[.string s, .string t] w fun e w' => e = .returned (.int .i64 (enF s t)) ∧ ∃ n, w' = w.drewN n := by
  by_cases h4 : s.size < 4
  · have HB : Hid (enF s t = 1) := by show _ = _; unfold enF; rw [if_pos h4]
    clear ht
    go_enter Tryz.func39, Tryz.ntmps39
    go_wp2
    go_ret
    rw [HB.out]
    exact ⟨rfl, 0, rfl⟩
  · have h4a : 4 ≤ s.size := by omega
    have h4b : (4 : Int) ≤ (s.size : Int) := by omega
    obtain ⟨A, hA⟩ : ∃ A, A = adS t.data.toList := ⟨_, rfl⟩
    obtain ⟨N, hN⟩ : ∃ N, N = num4 s 4 := ⟨_, rfl⟩
    have HNU : Hid (∀ u : World, Calls Tryz.prog 65 #[.string (s.extract 0 4)] u fun e w' => e = .returned (.int .u32 N) ∧ u = w') := fun u => (fnumber_any (s.extract 0 4) u (extract_size s 0 4 h4a)).mono fun e w' ⟨h1, h2⟩ => ⟨by rw [h1, num4_extract s 4 h4a (Nat.le_refl _), hN], h2⟩
    have HSU : Hid (∀ u : World, Calls Tryz.prog 52 #[.string t] u fun e w' => e = .returned (.int .u32 A) ∧ u = w') := fun u => (sumof_any t u ht).mono fun e w' ⟨h1, h2⟩ => ⟨by rw [h1, hA, adS_int], h2⟩
    have HB : Hid (enF s t = if N = A then if 4 < s.size then 7 else 0 else 8) := by show _ = _; unfold enF; rw [if_neg h4, ← hA, ← hN]
    rw [HB.out]
    clear hA hN ht HB
    by_cases hNA : N = A
    · subst hNA
      rw [if_pos rfl]
      have b1 : ((N : Int) != (N : Int)) = false := by simp
      by_cases h5 : 4 < s.size
      · rw [if_pos h5]
        go_enter Tryz.func39, Tryz.ntmps39
        go_wp2_with (first | (go_at_call 65; refine (HNU.out _).mono ?_; rintro e w1 ⟨rfl, rfl⟩) | (go_at_call 52; refine (HSU.out _).mono ?_; rintro e w1 ⟨rfl, rfl⟩))
        go_ret
        exact ⟨rfl, 0, rfl⟩
      · rw [if_neg h5]
        go_enter Tryz.func39, Tryz.ntmps39
        go_wp2_with (first | (go_at_call 65; refine (HNU.out _).mono ?_; rintro e w1 ⟨rfl, rfl⟩) | (go_at_call 52; refine (HSU.out _).mono ?_; rintro e w1 ⟨rfl, rfl⟩))
        go_ret
        exact ⟨rfl, 0, rfl⟩
    · rw [if_neg hNA]
      have b1 : ((N : Int) != (A : Int)) = true := by rw [bne_iff_ne]; omega
      go_enter Tryz.func39, Tryz.ntmps39
      go_wp2_with (first | (go_at_call 65; refine (HNU.out _).mono ?_; rintro e w1 ⟨rfl, rfl⟩) | (go_at_call 52; refine (HSU.out _).mono ?_; rintro e w1 ⟨rfl, rfl⟩))
      go_ret
      exact ⟨rfl, 0, rfl⟩
end Go.Proofs.YthdmjmnkhlpnnaaGreatDoor

/-
  The program's Unframe, whole.
-/
namespace Go.Proofs.YthdmjmnkhlpnnaaGreatDoor
open Go.RowKit

theorem cpy_len {M : Int} {b p n : Nat} {t t' : List UInt8} {q : Nat} (h : cpy M b p n t = .ok q t') : t'.length = t.length + n := by
  induction n generalizing t with
  | zero => simp [cpy] at h; rw [h.2]; rfl
  | succ n ih =>
    rw [cpy] at h
    split at h
    · have := ih h
      simp at this
      omega
    · simp at h
theorem agF_len {M : Int} {zb : List Int} {s : ByteArray} {n p : Nat} {t t' : List UInt8} {q : Nat} (h : agF M zb s n p t = .ok q t') : t'.length = t.length + n := by
  unfold agF at h
  split at h
  · simp at h
  · split at h
    · simp at h
    · split at h
      · split at h
        · simp at h
        · exact cpy_len h
      · simp at h
theorem agn_258 : ∀ k, k ≤ 28 → (agn k).1 + 2 ^ (agn k).2 ≤ 259 := by decide
theorem ltF_len {M : Int} {za zb : List Int} {s : ByteArray} {f p : Nat} {t t' : List UInt8} {q : Nat} (h : ltF M za zb s f p t = .ok q t') : t'.length + 258 * p ≤ t.length + 258 * q := by
  induction f generalizing p t with
  | zero => simp [ltF] at h; rw [h.1, h.2]; omega
  | succ f ih =>
    rw [ltF] at h
    split at h
    · simp at h
    · rename_i v r hs
      have hr := sym_ok hs
      split at h
      · split at h
        · have := ih h
          simp at this
          omega
        · simp at h
      · split at h
        · simp at h
          obtain ⟨rfl, rfl⟩ := h
          omega
        · split at h
          · split at h
            · split at h
              · rename_i p2 t2 ha
                have h1 := agF_len ha
                have h2 := agF_end ha
                have h3 := ih h
                have h4 := agn_258 (v - 257).toNat (by omega)
                have h5 := val_lt s r (agn (v - 257).toNat).2
                omega
              · simp at h
            · simp at h
          · simp at h
theorem rawF_len {M : Int} {s : ByteArray} {n a : Nat} {t t' : List UInt8} {q : Nat} (h : rawF M s n a t = .ok q t') : t'.length + 8 * a ≤ t.length + q := by
  induction n generalizing a t with
  | zero => simp [rawF] at h; rw [← h.1, h.2]; omega
  | succ n ih =>
    rw [rawF] at h
    split at h
    · split at h
      · have := ih h
        simp at this
        omega
      · simp at h
    · simp at h
theorem bkF_len {M : Int} {s : ByteArray} {k p : Nat} {t t' : List UInt8} {q : Nat} (h : bkF M s k p t = .ok q t') : t'.length + 258 * p ≤ t.length + 258 * q := by
  unfold bkF at h
  split at h
  · unfold asF at h
    split at h
    · split at h
      · have h1 := rawF_len h
        have h2 := rawF_end h (by omega)
        omega
      · simp at h
    · simp at h
  · split at h
    · exact ltF_len h
    · split at h
      · split at h
        · simp at h
        · rename_i za zb r ho
          have h1 := ltF_len h
          have h2 := owF_len ho
          omega
      · simp at h
theorem blF_len {M : Int} {s : ByteArray} {f p : Nat} {t t' : List UInt8} {q : Nat} (h : blF M s f p t = .ok q t') (hp : p ≤ 8 * s.size) : t'.length + 258 * p ≤ t.length + 258 * q ∧ q ≤ 8 * s.size := by
  induction f generalizing p t with
  | zero => simp [blF] at h; rw [← h.1, h.2]; omega
  | succ f ih =>
    rw [blF] at h
    split at h
    · rename_i h3
      split at h
      · simp at h
      · rename_i r u hb
        have h1 := bkF_len hb
        have h2 := bkF_end hb h3
        split at h
        · simp at h
          rw [← h.1, ← h.2]
          omega
        · have := ih h h2.2
          omega
    · simp at h
/-- the text is no longer than 2,064 times the data, and what is used lies within -/
theorem inF_len {s : ByteArray} {M : Int} {p : Nat} {t : List UInt8} (h : inF s M = .ok p t) : t.length ≤ 258 * p ∧ p ≤ 8 * s.size := by
  have := blF_len h (by omega)
  simp at this
  omega

/-- what Unframe answers -/
def ufF (s : ByteArray) (M : Int) : ByteArray × Nat :=
  if bgF s ≠ 0 then (⟨#[]⟩, bgF s)
  else if (ou (s.extract 2 s.size) M).2.2 ≠ 0 then (⟨#[]⟩, (ou (s.extract 2 s.size) M).2.2)
  else if enF (s.extract (2 + (ou (s.extract 2 s.size) M).2.1) s.size) (ou (s.extract 2 s.size) M).1 ≠ 0 then (⟨#[]⟩, enF (s.extract (2 + (ou (s.extract 2 s.size) M).2.1) s.size) (ou (s.extract 2 s.size) M).1)
  else ((ou (s.extract 2 s.size) M).1, 0)
theorem below_drewN (w : World) (n : Nat) : Below w.heap.size w (w.drewN n) := ((Kp.refl 0 w.heap.size w).drewN n).below
theorem Glo.drewN {w : World} (h : Glo w) (n : Nat) : Glo (w.drewN n) := h
/-- what is used lies within the data, and the text fits -/
theorem ou_fit (s : ByteArray) (M : Int) (hs : s.size ≤ 4194304) (h0 : (ou s M).2.2 = 0) : (ou s M).2.1 ≤ s.size ∧ (ou s M).1.size ≤ maxLen := by
  unfold ou at h0 ⊢
  cases hr : inF s M with
  | ok p t =>
    have := inF_len hr
    simp only
    unfold maxLen
    refine ⟨by omega, ?_⟩
    show t.toArray.size ≤ _
    rw [List.size_toArray]
    omega
  | no e t =>
    exfalso
    rw [hr] at h0
    have he := inF_no hr
    simp only at h0
    split at h0
    · simp at h0
    · simp at h0; exact he h0
theorem bg_size {s : ByteArray} (h : bgF s = 0) : 2 ≤ s.size := by
  unfold bgF at h
  split at h
  · simp at h
  · omega
theorem extract_extract (s : ByteArray) (n : Nat) : (s.extract 2 s.size).extract n (s.extract 2 s.size).size = s.extract (2 + n) s.size := by
  rw [ByteArray.extract_extract]
  congr 1
  rw [ByteArray.size_extract]
  omega

set_option maxHeartbeats 1600000 in
theorem unframe_any (w : World) (s : ByteArray) (m : Int) (hs : s.size ≤ 4194304) (hg : Glo w) (hw : 1 < w.heap.size) :
    Calls Tryz.prog 17 #[.string s, .int .i64 m] w fun e w' => e = .returned (.tuple #[.string (ufF s (max m 0)).1, .int .i64 (ufF s (max m 0)).2]) ∧ Below w.heap.size w w' := by
  have HB := hid (begin_any s w hs)
  obtain ⟨b, hb⟩ : ∃ b, b = bgF s := ⟨_, rfl⟩
  rw [← hb] at HB
  obtain ⟨X, hX⟩ : ∃ X, X = ufF s (max m 0) := ⟨_, rfl⟩
  rw [← hX]
  by_cases h0 : b = 0
  · have h2 := bg_size (hb ▸ h0)
    have h2a : (2 : Int) ≤ (s.size : Int) := by omega
    obtain ⟨D, hD⟩ : ∃ D, D = s.extract 2 s.size := ⟨_, rfl⟩
    have hDs : D.size ≤ 4194304 := by rw [hD, ByteArray.size_extract]; omega
    have HI : Hid (∀ u : World, Glo u → 1 < u.heap.size → Calls Tryz.prog 16 #[.string D, .int .i64 m] u fun e w' => e = .returned (.tuple #[.string (ou D (max m 0)).1, .int .i64 (ou D (max m 0)).2.1, .int .i64 (ou D (max m 0)).2.2]) ∧ Below u.heap.size u w') := fun u h1 h2 => inflate_any u D m hDs h1 h2
    obtain ⟨A, hA⟩ : ∃ A, A = (ou D (max m 0)).1 := ⟨_, rfl⟩
    obtain ⟨N, hN⟩ : ∃ N, N = (ou D (max m 0)).2.1 := ⟨_, rfl⟩
    obtain ⟨E, hE⟩ : ∃ E, E = (ou D (max m 0)).2.2 := ⟨_, rfl⟩
    rw [← hA, ← hN, ← hE] at HI
    have HD := hid hD
    by_cases hE0 : E = 0
    · have hfit := ou_fit D (max m 0) hDs (by rw [← hE]; exact hE0)
      rw [← hA, ← hN] at hfit
      have hND : (N : Int) ≤ (D.size : Int) := by omega
      obtain ⟨R, hRR⟩ : ∃ R, R = D.extract N D.size := ⟨_, rfl⟩
      have hR2 : s.extract (2 + N) s.size = R := by rw [hRR, hD, extract_extract]
      have hRs : R.size ≤ 4194304 := by rw [hRR, ByteArray.size_extract]; omega
      have HEN : Hid (∀ u : World, Calls Tryz.prog 39 #[.string R, .string A] u fun e w' => e = .returned (.int .i64 (enF R A)) ∧ ∃ n, w' = u.drewN n) := fun u => end_any R A u hRs hfit.2
      obtain ⟨f, hf⟩ : ∃ f, f = enF R A := ⟨_, rfl⟩
      rw [← hf] at HEN
      have HXV : Hid (X = if f ≠ 0 then (⟨#[]⟩, f) else (A, 0)) := by
        show X = _
        rw [hX]
        unfold ufF
        rw [← hb, if_neg (by omega), ← hD, ← hE, if_neg (by omega), ← hA, ← hN, hR2, ← hf]
      have HRX := hid hRR
      subst hE0 h0
      have HG := hid hg
      clear hb hX hA hN hE hD hRR hR2 hf hfit hg
      by_cases hf0 : f = 0
      · subst hf0
        go_enter Tryz.func17, Tryz.ntmps17
        go_wp2_with (first | (go_at_call 38; refine HB.out.mono ?_; rintro e w1 ⟨rfl, n1, rfl⟩) | (go_at_call 16; rw [← HD.out]; refine (HI.out _ (HG.out.drewN n1) (by simp; omega)).mono ?_; rintro e w2 ⟨rfl, hb2⟩; have HB2 := hid hb2; clear hb2) | (go_at_call 39; rw [← HRX.out]; refine (HEN.out _).mono ?_; rintro e w3 ⟨rfl, n3, rfl⟩))
        go_ret2
        rw [HXV.out]
        refine ⟨rfl, (below_drewN w n1).trans (HB2.out.trans ?_)⟩
        exact (below_drewN w2 n3).mono HB2.out.size
      · have b1 : ((f : Int) != 0) = true := by rw [bne_iff_ne]; omega
        have HX2 : Hid (X = (⟨#[]⟩, f)) := by show X = _; rw [HXV.out, if_pos hf0]
        go_enter Tryz.func17, Tryz.ntmps17
        go_wp2_with (first | (go_at_call 38; refine HB.out.mono ?_; rintro e w1 ⟨rfl, n1, rfl⟩) | (go_at_call 16; rw [← HD.out]; refine (HI.out _ (HG.out.drewN n1) (by simp; omega)).mono ?_; rintro e w2 ⟨rfl, hb2⟩; have HB2 := hid hb2; clear hb2) | (go_at_call 39; rw [← HRX.out]; refine (HEN.out _).mono ?_; rintro e w3 ⟨rfl, n3, rfl⟩))
        go_ret2
        rw [HX2.out]
        refine ⟨rfl, (below_drewN w n1).trans (HB2.out.trans ?_)⟩
        exact (below_drewN w2 n3).mono HB2.out.size
    · have HXV : Hid (X = (⟨#[]⟩, E)) := by
        show X = _
        rw [hX]
        unfold ufF
        rw [← hb, if_neg (by omega), ← hD, ← hE, if_pos hE0]
      have b1 : ((E : Int) != 0) = true := by rw [bne_iff_ne]; omega
      have HG := hid hg
      subst h0
      clear hb hX hA hN hE hD hg
      go_enter Tryz.func17, Tryz.ntmps17
      go_wp2_with (first | (go_at_call 38; refine HB.out.mono ?_; rintro e w1 ⟨rfl, n1, rfl⟩) | (go_at_call 16; rw [← HD.out]; refine (HI.out _ (HG.out.drewN n1) (by simp; omega)).mono ?_; rintro e w2 ⟨rfl, hb2⟩; have HB2 := hid hb2; clear hb2))
      go_ret2
      rw [HXV.out]
      exact ⟨rfl, (below_drewN w n1).trans HB2.out⟩
  · have HX : Hid (X = (⟨#[]⟩, b)) := by show _ = _; rw [hX]; unfold ufF; rw [← hb, if_pos h0]
    have b1 : ((b : Int) != 0) = true := by rw [bne_iff_ne]; omega
    clear hb hX hg
    go_enter Tryz.func17, Tryz.ntmps17
    go_wp2_with (go_at_call 38; refine HB.out.mono ?_; rintro e w1 ⟨rfl, n, rfl⟩)
    go_ret2
    rw [HX.out]
    exact ⟨rfl, below_drewN w n⟩
end Go.Proofs.YthdmjmnkhlpnnaaGreatDoor

/-
  A frame put around blocks.
-/
namespace Go.Proofs.YthdmjmnkhlpnnaaGreatDoor
open Go.RowKit

/-- the four bytes of a number, the highest first -/
def be4 (n : Nat) : List UInt8 := [UInt8.ofNat (n / 16777216), UInt8.ofNat (n / 65536 % 256), UInt8.ofNat (n / 256 % 256), UInt8.ofNat (n % 256)]
set_option maxRecDepth 20000 in
set_option maxHeartbeats 400000 in
theorem bytesOf_any (n : Nat) (hn : n < 4294967296) (w : World) :
    Calls Tryz.prog 51 #[.int .u32 n] w fun e w' => ∃ v, e = .returned v ∧ (∀ u, Below w'.heap.size w' u → (convert 37 9 v).run Tryz.prog u = .ok (.string ⟨(be4 n).toArray⟩) u) ∧ Below w.heap.size w w' := by
  go_enter Tryz.func51, Tryz.ntmps51
  go_wp2
  go_ret
  refine ⟨_, rfl, fun u hb => ?_, (Below.refl _ _).alloc (Nat.le_refl _) _⟩
  have hh : u.heap[w.heap.size]? = some (.cells #[Value.int .u8 ((n : Int) / 16777216), .int .u8 ((n : Int) / 65536 % 256), .int .u8 ((n : Int) / 256 % 256), .int .u8 ((n : Int) % 256)] 5 (0, 0)) := (hb.block w.heap.size (by simp)).trans (heap_alloc_new w _)
  refine run_convert_bytes_back u 37 9 5 ⟨w.heap.size, 0, none⟩ 4 (be4 n) Tryz.underlying37 Tryz.underlying5 Tryz.underlying9 (fun j hj => ?_)
  have e2 : (⟨w.heap.size, 0, none⟩ : Addr).add j = ⟨w.heap.size, j, none⟩ := by unfold Addr.add; split <;> simp_all
  rw [e2, cell_of_row u w.heap.size j _ 5 (0, 0) hh]
  have hj4 : j < 4 := hj
  have c : j = 0 ∨ j = 1 ∨ j = 2 ∨ j = 3 := by omega
  rcases c with rfl | rfl | rfl | rfl <;> simp [be4] <;> omega
set_option maxRecDepth 20000 in
set_option maxHeartbeats 400000 in
theorem around_any (D S : ByteArray) (hD : D.size ≤ 4194304) (hS : S.size ≤ 4194304) (w : World) :
    Calls Tryz.prog 24 #[.string D, .string S] w fun e w' => e = .returned (.string (⟨#[120, 156]⟩ ++ D ++ ⟨(be4 (adS S.data.toList)).toArray⟩)) ∧ Below w.heap.size w w' := by
  obtain ⟨A, hA⟩ : ∃ A, A = adS S.data.toList := ⟨_, rfl⟩
  have hlt : A < 4294967296 := by rw [hA]; exact adS_lt _
  have HSU : Hid (∀ u : World, Calls Tryz.prog 52 #[.string S] u fun e w' => e = .returned (.int .u32 A) ∧ u = w') := fun u => (sumof_any S u (by unfold maxLen; omega)).mono fun e w' ⟨h1, h2⟩ => ⟨by rw [h1, hA, adS_int], h2⟩
  rw [← hA]
  have HBO := hid (bytesOf_any A hlt)
  obtain ⟨Z, hZ⟩ : ∃ Z : ByteArray, Z = ⟨(be4 A).toArray⟩ := ⟨_, rfl⟩
  have hZs : Z.size ≤ 4 := by rw [hZ]; exact Nat.le_refl 4
  rw [← hZ] at HBO ⊢
  clear hA hlt hZ
  go_enter Tryz.func24, Tryz.ntmps24
  go_wp2_with (first | (go_at_call 52; refine (HSU.out _).mono ?_; rintro e w1 ⟨rfl, rfl⟩) | (go_at_call 51; refine (HBO.out _).mono ?_; rintro e w1 ⟨v, rfl, hcv, hb1⟩; have hcv1 := hcv _ (Below.refl _ _); have HB1 := hid hb1; clear hcv hb1))
  go_ret
  exact ⟨rfl, HB1.out⟩
end Go.Proofs.YthdmjmnkhlpnnaaGreatDoor

/-
  Plain: what is packed with a frame is read back.
-/
namespace Go.Proofs.YthdmjmnkhlpnnaaGreatDoor

/-- what Frame gives -/
def frl (t o : List UInt8) : List UInt8 := [120, 156] ++ o ++ be4 (adS t)
theorem num4_be4 (n : Nat) (h : n < 4294967296) (l : List UInt8) : num4 ⟨(be4 n ++ l).toArray⟩ 4 = n := by
  simp only [num4, byt, be4, List.cons_append, List.nil_append, List.getD_cons_zero, List.getD_cons_succ, UInt8.toNat_ofNat']
  omega
theorem frl_bg (x : List UInt8) : bgF ⟨([120, 156] ++ x).toArray⟩ = 0 := by
  unfold bgF
  rw [if_neg (by rw [ba_size]; simp)]
  rw [if_pos]
  simp only [byt, List.cons_append, List.nil_append, List.getD_cons_zero, List.getD_cons_succ]
  decide
theorem frl_rest (x : List UInt8) : (⟨([120, 156] ++ x).toArray⟩ : ByteArray).extract 2 (⟨([120, 156] ++ x).toArray⟩ : ByteArray).size = ⟨x.toArray⟩ := by
  apply ba_ext
  rw [ba_ext_list, ba_of, ba_size, List.take_length]
  rfl
theorem frl_end (o y : List UInt8) : (⟨([120, 156] ++ (o ++ y)).toArray⟩ : ByteArray).extract (2 + o.length) (⟨([120, 156] ++ (o ++ y)).toArray⟩ : ByteArray).size = ⟨y.toArray⟩ := by
  apply ba_ext
  rw [ba_ext_list, ba_of, ba_size, List.take_length, ← List.append_assoc, List.drop_left' (by simp; omega)]
/-- Unframe of blocks with something behind them -/
theorem Dfl.uf {lv : Nat} {t o : List UInt8} (h : Dfl lv t o) (y : List UInt8) (M : Int) (hM : (t.length : Int) ≤ M) : ufF ⟨([120, 156] ++ (o ++ y)).toArray⟩ M = if enF ⟨y.toArray⟩ ⟨t.toArray⟩ ≠ 0 then (⟨#[]⟩, enF ⟨y.toArray⟩ ⟨t.toArray⟩) else (⟨t.toArray⟩, 0) := by
  unfold ufF
  rw [frl_bg, if_neg (by simp), frl_rest, h.ou y M hM]
  simp only
  rw [if_neg (by simp), frl_end]
theorem en_four (y t : List UInt8) : enF ⟨(be4 (adS t) ++ y).toArray⟩ ⟨t.toArray⟩ = if y = [] then 0 else 7 := by
  unfold enF
  rw [ba_size, if_neg (by simp [be4]), num4_be4 _ (adS_lt t), if_pos rfl]
  cases y with
  | nil => rw [if_neg (by simp [be4]), if_pos rfl]
  | cons a b => rw [if_pos (by simp [be4]), if_neg (by simp)]
/-- of a whole frame -/
theorem Dfl.frame {lv : Nat} {t o : List UInt8} (h : Dfl lv t o) (M : Int) (hM : (t.length : Int) ≤ M) : ufF ⟨(frl t o).toArray⟩ M = (⟨t.toArray⟩, 0) := by
  have := h.uf (be4 (adS t) ++ []) M hM
  rw [en_four, if_pos rfl, if_neg (by simp), List.append_nil] at this
  unfold frl
  rw [List.append_assoc]
  exact this
end Go.Proofs.YthdmjmnkhlpnnaaGreatDoor

/-
  Plain: the bytes of blocks as they are, one behind the other.
-/
namespace Go.Proofs.YthdmjmnkhlpnnaaGreatDoor
open Go.RowKit

theorem leN_inj : ∀ (a b : List UInt8), a.length = b.length → leN a = leN b → a = b
  | [], [], _, _ => rfl
  | [], _ :: _, h, _ => by simp at h
  | _ :: _, [], h, _ => by simp at h
  | x :: a, y :: b, h, e => by
    have hx := x.toNat_lt
    have hy := y.toNat_lt
    simp only [leN] at e
    have e1 : x.toNat = y.toNat := by omega
    have e2 : leN a = leN b := by omega
    rw [leN_inj a b (by simpa using h) e2, UInt8.toNat_inj.1 e1]
/-- the five bytes ahead of so many bytes as they are -/
def hdr (b : Bool) (n : Nat) : List UInt8 := [UInt8.ofNat b.toNat, UInt8.ofNat (n % 256), UInt8.ofNat (n / 256), UInt8.ofNat ((65535 - n) % 256), UInt8.ofNat ((65535 - n) / 256)]
theorem hdr_leN (b : Bool) (n : Nat) (h : n ≤ 65535) : leN (hdr b n) = b.toNat + 256 * n + 16777216 * (65535 - n) := by
  have hb : b.toNat ≤ 1 := by cases b <;> decide
  simp only [hdr, leN, UInt8.toNat_ofNat']
  omega
theorem blV_bytes (o t : List UInt8) (b : Bool) (ht : t.length ≤ 65535) : blV (leN o) (8 * o.length) t b = leN (o ++ (hdr b t.length ++ t)) := by
  rw [leN_append, leN_append, hdr_leN b t.length ht, pow256]
  unfold blV
  have hl : 8 * o.length + 3 + lft (8 * o.length + 3) = 8 * o.length + 8 := by unfold lft; omega
  have e5 : 256 ^ (hdr b t.length).length = 1099511627776 := by show 256 ^ 5 = _; decide
  rw [hl, Nat.pow_add, show (2 : Nat) ^ 8 = 256 by decide, e5, Nat.mul_assoc, Nat.add_assoc, ← Nat.mul_add]
  congr 2
  omega
theorem blL_bytes (o t : List UInt8) (b : Bool) : blL (8 * o.length) t.length = 8 * (o ++ (hdr b t.length ++ t)).length := by
  have hl : 8 * o.length + 3 + lft (8 * o.length + 3) = 8 * o.length + 8 := by unfold lft; omega
  unfold blL
  rw [hl, List.length_append, List.length_append, show (hdr b t.length).length = 5 from rfl]
  omega
/-- a text by blocks as they are, each as long as may be -/
def plF : Nat → List UInt8 → List UInt8
  | 0, u => hdr true u.length ++ u
  | f + 1, u => if 65535 < u.length then hdr false 65535 ++ u.take 65535 ++ plF f (u.drop 65535) else hdr true u.length ++ u
theorem adF_bytes (f : Nat) (o u : List UInt8) (h : u.length < f) : let r := adF f (leN o) (8 * o.length) [] u
    r.2.2.length ≤ 65535 ∧ blV r.1 r.2.1 r.2.2 true = leN (o ++ plF f u) ∧ blL r.2.1 r.2.2.length = 8 * (o ++ plF f u).length ∧ r.2.1 ≤ 8 * o.length + 16 * u.length := by
  induction f generalizing o u with
  | zero => omega
  | succ f ih =>
    simp only [adF, List.length_nil, Nat.zero_add, Nat.sub_zero, List.nil_append, plF]
    by_cases hb : 65535 < u.length
    · rw [if_pos hb, if_pos hb]
      have hl : (u.take 65535).length = 65535 := by rw [List.length_take]; omega
      have h1 := blV_bytes o (u.take 65535) false (by omega)
      have h2 := blL_bytes o (u.take 65535) false
      rw [hl] at h1 h2
      rw [h1, h2]
      have h3 := ih (o ++ (hdr false 65535 ++ u.take 65535)) (u.drop 65535) (by rw [List.length_drop]; omega)
      simp only at h3
      obtain ⟨a1, a2, a3, a4⟩ := h3
      refine ⟨a1, by rw [a2]; simp only [List.append_assoc], by rw [a3]; simp only [List.append_assoc], ?_⟩
      have hn : (o ++ (hdr false 65535 ++ u.take 65535)).length = o.length + 65540 := by rw [List.length_append, List.length_append, hl]; rfl
      have hd : (u.drop 65535).length = u.length - 65535 := List.length_drop
      omega
    · rw [if_neg hb, if_neg hb]
      refine ⟨by simp only; omega, ?_, ?_, by simp only; omega⟩
      · exact blV_bytes o u true (by omega)
      · exact blL_bytes o u true
set_option maxRecDepth 20000 in
set_option maxHeartbeats 800000 in
theorem deflate0_any (w : World) (S : ByteArray) (hS : S.size ≤ 1048576) :
    Calls Tryz.prog 9 #[.string S, .int .i64 0] w fun e w' => e = .returned (.tuple #[.string ⟨(plF (S.size + 1) S.data.toList).toArray⟩, .int .i64 0]) ∧ Below w.heap.size w w' := by
  have hsl : S.data.toList.length = S.size := by rw [Array.length_toList]; rfl
  have hA := adF_bytes (S.size + 1) [] S.data.toList (by omega)
  simp only [List.length_nil, Nat.mul_zero, List.nil_append, show leN [] = 0 from rfl, hsl, Nat.zero_add] at hA
  obtain ⟨a1, a2, a3, a4⟩ := hA
  obtain ⟨R, hR⟩ : ∃ R, R = adF (S.size + 1) 0 0 [] S.data.toList := ⟨_, rfl⟩
  rw [← hR] at a1 a2 a3 a4
  obtain ⟨P, hP⟩ : ∃ P, P = plF (S.size + 1) S.data.toList := ⟨_, rfl⟩
  rw [← hP] at a2 a3 ⊢
  have HA1 := hid a2
  have HA2 := hid a3
  have HA3 := hid a1
  have hR21 : R.2.1 ≤ 8589934592 := by omega
  obtain ⟨B, hB⟩ : ∃ B, B = w.heap.size := ⟨_, rfl⟩
  have HBB := hid hB
  have HAD : Hid (∀ u : World, Pk u B 0 0 [] (.pointer none) → Calls Tryz.prog 21 #[.pointer (some ⟨B, 0, none⟩), .string S] u fun e w' => e = .returned (.tuple #[]) ∧ Pk w' B R.1 R.2.1 R.2.2 (.pointer none) ∧ Kk B u w') := fun u hu => by
    rw [hR]
    exact add0_any u B 0 0 [] S (S.size + 1) hu (by simp) hS (by omega) (by simp)
  have HEN : Hid (∀ u : World, Pk u B R.1 R.2.1 R.2.2 (.pointer none) → Calls Tryz.prog 22 #[.pointer (some ⟨B, 0, none⟩)] u fun e w' => e = .returned (.tuple #[]) ∧ Pk w' B (leN P) (8 * P.length) [] (.pointer none) ∧ Kk B u w') := fun u hu => by
    rw [← HA1.out, ← HA2.out]
    exact end0_any u B R.1 R.2.1 R.2.2 hu HA3.out hR21
  have HNW : Hid (Calls Tryz.prog 20 #[.int .i64 0] w fun e w' => e = .returned (.pointer (some ⟨B, 0, none⟩)) ∧ Pk w' B 0 0 [] (.pointer none) ∧ Below B w w') := by rw [hB]; exact new0_any w
  clear hB hR hP a1 a2 a3 a4 hsl
  go_enter Tryz.func9, Tryz.ntmps9
  go_wp2_with (first | (go_at_call 19; refine (isLevel_any _ 0).mono ?_; rintro e w' ⟨rfl, rfl⟩) | (go_at_call 20; refine HNW.out.mono ?_; rintro e w1 ⟨rfl, hp1, hb1⟩; have HP1 := hid hp1; have HB1 := hid hb1; clear hp1 hb1) | (go_at_call 21; refine (HAD.out _ HP1.out).mono ?_; rintro e w2 ⟨rfl, hp2, hk2⟩; have HP2 := hid hp2; have HK2 := hid hk2; clear hp2 hk2) | (go_at_call 22; refine (HEN.out _ HP2.out).mono ?_; rintro e w3 ⟨rfl, hp3, hk3⟩; have HP3 := hid hp3; have HK3 := hid hk3; clear hp3 hk3) | (go_at_call 23; refine (take_any _ B _ _ _ _ HP3.out).mono ?_; rintro e w4 ⟨o, g, c, rfl, hc, hg, hV, hL, hp4, hk4⟩; have HO := hid (And.intro hc (And.intro hg (And.intro hV hL))); have HK4 := hid hk4; clear hc hg hV hL hp4 hk4))
  go_ret2
  obtain ⟨hc, hg, hV, hL⟩ := HO.out
  obtain rfl : c = 0 := by omega
  obtain rfl : g = 0 := by have : (2 : Nat) ^ 0 = 1 := rfl; omega
  have e : P = o := leN_inj P o (by omega) (by simpa using hV)
  rw [e]
  refine ⟨rfl, ?_⟩
  rw [← HBB.out]
  exact ((HB1.out.trans HK2.out.below).trans HK3.out.below).trans HK4.out.below
end Go.Proofs.YthdmjmnkhlpnnaaGreatDoor

/-
  Deflate and Frame, at any level.
-/
namespace Go.Proofs.YthdmjmnkhlpnnaaGreatDoor
open Go.RowKit Go.Maps

set_option maxRecDepth 20000 in
set_option maxHeartbeats 1600000 in
theorem deflate_any (w : World) (S : ByteArray) (lv : Nat) (h9 : lv ≤ 9) (hS : S.size ≤ 4194304) (hg : Gl2 w) :
    Calls Tryz.prog 9 #[.string S, .int .i64 lv] w fun e w' => ∃ o : List UInt8, e = .returned (.tuple #[.string ⟨o.toArray⟩, .int .i64 0]) ∧ Dfl lv S.data.toList o ∧ Below w.heap.size w w' := by
  have HNW := hid (pnew_any w lv h9 hg.eff)
  have HG := hid hg
  have d0 : decide ((0 : Int) ≤ (lv : Int)) = true := by simp
  have d9 : decide ((lv : Int) ≤ 9) = true := by simp; omega
  have HIL : Hid (∀ u : World, Calls Tryz.prog 19 #[.int .i64 lv] u fun e w' => e = .returned (.bool true) ∧ u = w') := fun u => (isLevel_any u lv).mono fun e w' ⟨h1, h2⟩ => ⟨by rw [h1, d0, d9]; rfl, h2⟩
  have hgl := cell_in (hg.ord 0 (by omega))
  clear hg
  go_enter Tryz.func9, Tryz.ntmps9
  go_wp2_with (first
    | (go_at_call 23; refine (ptake_any _ O3 B _ _ _ _ _ HP3.out).mono ?_; rintro e w4 ⟨o, g, c, rfl, hc, hgg, hV, hL, O4, hp4, hk4⟩; have HO := hid (And.intro hc (And.intro hgg (And.intro hV hL))); have HK4 := hid hk4; clear hc hgg hV hL hp4 hk4)
    | (go_at_call 22; refine (pend2_any w2 O2 B V2 L2 t2 lv hs2 HP2.out HD.out.2.2.1 hL2 hH2 (HG1.out.to HK2.out)).mono ?_; rintro e w3 ⟨rfl, ps, O3, hbq, hp3, hk3⟩; have HBQ := hid hbq; have HP3 := hid hp3; have HK3 := hid hk3; clear hbq hp3 hk3)
    | (go_at_call 21; refine (padd_any w1 O1 B 0 0 [] lv [] S HP1.out (by simp) hS (by omega) (by simp) HG1.out).mono ?_; rintro e w2 ⟨rfl, V2, L2, t2, hs2, O2, m, hp2, hw2, ht2, hl2, hl3, hm2, hm3, hk2⟩; have HP2 := hid hp2; have HD := hid (And.intro hw2 (And.intro ht2 (And.intro hl2 (And.intro hm2 hm3)))); have HK2 := hid hk2; have hL2 : L2 ≤ 8589934592 := (by simp at hl3; omega); have HL16 : Hid (L2 ≤ 16 * hs2.length) := (by have := congrArg List.length ht2; simp at this hl3; show _ ≤ _; omega); have hH2 : hs2.length ≤ 1000000000000 := (by have := congrArg List.length ht2; simp at this; omega); clear hp2 hw2 ht2 hl2 hl3 hm2 hm3 hk2)
    | (go_at_call 20; refine HNW.out.mono ?_; rintro e w1 ⟨B, O1, rfl, hp1, hb1, hB1, ho1⟩; have HP1 := hid hp1; have HB1 := hid hb1; have HO1 := hid ho1; have HG1 : Hid (Gk w1 O1) := ⟨(HG.out.below hb1).ord, fun e => (by have := ho1 _ e; omega)⟩; clear hp1 hb1 ho1)
    | (go_at_call 19; refine (HIL.out _).mono ?_; rintro e w' ⟨rfl, rfl⟩))
  go_ret2
  obtain ⟨hc, hgg, hV, hL⟩ := HO.out
  obtain ⟨hw2, ht2, hl2, hm2, hm3⟩ := HD.out
  have e8 : (L2 + pl ps + lft (L2 + pl ps)) % 8 = 0 := by unfold lft; omega
  obtain rfl : c = 0 := by omega
  obtain rfl : g = 0 := by have : (2 : Nat) ^ 0 = 1 := rfl; omega
  refine ⟨o, rfl, ⟨V2, L2, hs2, t2, ps, hw2, by rw [ht2]; simp, HBQ.out, by simpa using hV.symm, by omega, m, by simpa using hm2, hm3, HL16.out⟩, ?_⟩
  have kt := (HK2.out.trans HK3.out).trans HK4.out
  have hz := HB1.out.size
  exact HB1.out.trans ⟨kt.fr.env.os, kt.fr.env.tape, kt.fr.env.output, kt.fr.env.size, fun k hk => kt.fr.blk k (by omega) (fun e => by have := HO1.out k e; omega)⟩
set_option maxRecDepth 20000 in
set_option maxHeartbeats 800000 in
theorem frame_any (w : World) (S : ByteArray) (lv : Nat) (h9 : lv ≤ 9) (hS : S.size ≤ 1048576) (hg : Gl2 w) :
    Calls Tryz.prog 10 #[.string S, .int .i64 lv] w fun e w' => ∃ o : List UInt8, e = .returned (.tuple #[.string (⟨#[120, 156]⟩ ++ ⟨o.toArray⟩ ++ ⟨(be4 (adS S.data.toList)).toArray⟩), .int .i64 0]) ∧ Dfl lv S.data.toList o ∧ Below w.heap.size w w' := by
  have HD := hid (deflate_any w S lv h9 (by omega) hg)
  go_enter Tryz.func10, Tryz.ntmps10
  go_wp2_with (first
    | (go_at_call 24; refine (around_any D S (by have q1 := HDL.out.len; have q2 := HDS.out; rw [szl] at q1; omega) (by omega) w1).mono ?_; rintro e w2 ⟨rfl, hb2⟩; have HB2 := hid hb2; clear hb2)
    | (go_at_call 9; refine HD.out.mono ?_; rintro e w1 ⟨o, rfl, hd1, hb1⟩; obtain ⟨D, hDD⟩ : ∃ D : ByteArray, D = ⟨o.toArray⟩ := ⟨_, rfl⟩; rw [← hDD]; have HDL := hid hd1; have HDS : Hid (D.size = o.length) := (by show _ = _; rw [hDD]; exact ba_size o); have HDD := hid hDD; have HB1 := hid hb1; clear hd1 hb1 hDD))
  go_ret2
  exact ⟨o, by rw [← HDD.out]; rfl, HDL.out, HB1.out.trans (HB2.out.mono HB1.out.size)⟩
end Go.Proofs.YthdmjmnkhlpnnaaGreatDoor

/-
  Deflate and Frame at any level, with how many blocks there are.
-/
namespace Go.Proofs.YthdmjmnkhlpnnaaGreatDoor
open Go.RowKit Go.Maps

set_option maxRecDepth 20000 in
set_option maxHeartbeats 1600000 in
theorem deflatef_any (w : World) (S : ByteArray) (lv : Nat) (h9 : lv ≤ 9) (hS : S.size ≤ 4194304) (hg : Gl2 w) :
    Calls Tryz.prog 9 #[.string S, .int .i64 lv] w fun e w' => ∃ o : List UInt8, e = .returned (.tuple #[.string ⟨o.toArray⟩, .int .i64 0]) ∧ Dfm lv S.data.toList o ∧ Below w.heap.size w w' := by
  have HNW := hid (pnew_any w lv h9 hg.eff)
  have HG := hid hg
  have d0 : decide ((0 : Int) ≤ (lv : Int)) = true := by simp
  have d9 : decide ((lv : Int) ≤ 9) = true := by simp; omega
  have HIL : Hid (∀ u : World, Calls Tryz.prog 19 #[.int .i64 lv] u fun e w' => e = .returned (.bool true) ∧ u = w') := fun u => (isLevel_any u lv).mono fun e w' ⟨h1, h2⟩ => ⟨by rw [h1, d0, d9]; rfl, h2⟩
  have hgl := cell_in (hg.ord 0 (by omega))
  clear hg
  go_enter Tryz.func9, Tryz.ntmps9
  go_wp2_with (first
    | (go_at_call 23; refine (ptake_any _ O3 B _ _ _ _ _ HP3.out).mono ?_; rintro e w4 ⟨o, g, c, rfl, hc, hgg, hV, hL, O4, hp4, hk4⟩; have HO := hid (And.intro hc (And.intro hgg (And.intro hV hL))); have HK4 := hid hk4; clear hc hgg hV hL hp4 hk4)
    | (go_at_call 22; refine (pend2_any w2 O2 B V2 L2 t2 lv hs2 HP2.out HD.out.2.2.1 hL2 hH2 (HG1.out.to HK2.out)).mono ?_; rintro e w3 ⟨rfl, ps, O3, hbq, hp3, hk3⟩; have HBQ := hid hbq; have HP3 := hid hp3; have HK3 := hid hk3; clear hbq hp3 hk3)
    | (go_at_call 21; refine (paddf_any w1 O1 B 0 0 [] lv [] S HP1.out (by simp) hS (by omega) (by simp) HG1.out).mono ?_; rintro e w2 ⟨rfl, V2, L2, t2, hs2, O2, m, hp2, hw2, ht2, hl2, hl3, hm2, hm3, hk2⟩; have HP2 := hid hp2; have HD := hid (And.intro hw2 (And.intro ht2 (And.intro hl2 (And.intro hm2 hm3)))); have HK2 := hid hk2; have hL2 : L2 ≤ 8589934592 := (by simp at hl3; omega); have HL16 : Hid (L2 ≤ 16 * hs2.length) := (by have := congrArg List.length ht2; simp at this hl3; show _ ≤ _; omega); have hH2 : hs2.length ≤ 1000000000000 := (by have := congrArg List.length ht2; simp at this; omega); clear hp2 hw2 ht2 hl2 hl3 hm2 hm3 hk2)
    | (go_at_call 20; refine HNW.out.mono ?_; rintro e w1 ⟨B, O1, rfl, hp1, hb1, hB1, ho1⟩; have HP1 := hid hp1; have HB1 := hid hb1; have HO1 := hid ho1; have HG1 : Hid (Gk w1 O1) := ⟨(HG.out.below hb1).ord, fun e => (by have := ho1 _ e; omega)⟩; clear hp1 hb1 ho1)
    | (go_at_call 19; refine (HIL.out _).mono ?_; rintro e w' ⟨rfl, rfl⟩))
  go_ret2
  obtain ⟨hc, hgg, hV, hL⟩ := HO.out
  obtain ⟨hw2, ht2, hl2, hm2, hm3⟩ := HD.out
  have e8 : (L2 + pl ps + lft (L2 + pl ps)) % 8 = 0 := by unfold lft; omega
  obtain rfl : c = 0 := by omega
  obtain rfl : g = 0 := by have : (2 : Nat) ^ 0 = 1 := rfl; omega
  refine ⟨o, rfl, ⟨V2, L2, hs2, t2, ps, m, hw2, by rw [ht2]; simp, HBQ.out, by simpa using hV.symm, by omega, hm3⟩, ?_⟩
  have kt := (HK2.out.trans HK3.out).trans HK4.out
  have hz := HB1.out.size
  exact HB1.out.trans ⟨kt.fr.env.os, kt.fr.env.tape, kt.fr.env.output, kt.fr.env.size, fun k hk => kt.fr.blk k (by omega) (fun e => by have := HO1.out k e; omega)⟩
set_option maxRecDepth 20000 in
set_option maxHeartbeats 800000 in
theorem framef_any (w : World) (S : ByteArray) (lv : Nat) (h9 : lv ≤ 9) (hS : S.size ≤ 1048576) (hg : Gl2 w) :
    Calls Tryz.prog 10 #[.string S, .int .i64 lv] w fun e w' => ∃ o : List UInt8, e = .returned (.tuple #[.string (⟨#[120, 156]⟩ ++ ⟨o.toArray⟩ ++ ⟨(be4 (adS S.data.toList)).toArray⟩), .int .i64 0]) ∧ Dfm lv S.data.toList o ∧ Below w.heap.size w w' := by
  have HD := hid (deflatef_any w S lv h9 (by omega) hg)
  go_enter Tryz.func10, Tryz.ntmps10
  go_wp2_with (first
    | (go_at_call 24; refine (around_any D S (by have q1 := HDL.out.dfl.len; have q2 := HDS.out; rw [szl] at q1; omega) (by omega) w1).mono ?_; rintro e w2 ⟨rfl, hb2⟩; have HB2 := hid hb2; clear hb2)
    | (go_at_call 9; refine HD.out.mono ?_; rintro e w1 ⟨o, rfl, hd1, hb1⟩; obtain ⟨D, hDD⟩ : ∃ D : ByteArray, D = ⟨o.toArray⟩ := ⟨_, rfl⟩; rw [← hDD]; have HDL := hid hd1; have HDS : Hid (D.size = o.length) := (by show _ = _; rw [hDD]; exact ba_size o); have HDD := hid hDD; have HB1 := hid hb1; clear hd1 hb1 hDD))
  go_ret2
  exact ⟨o, by rw [← HDD.out]; rfl, HDL.out, HB1.out.trans (HB2.out.mono HB1.out.size)⟩
end Go.Proofs.YthdmjmnkhlpnnaaGreatDoor
