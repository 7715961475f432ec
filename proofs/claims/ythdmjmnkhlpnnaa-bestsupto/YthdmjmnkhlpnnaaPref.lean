/-
  No symbol's bits begin with another's: plain mathematics; and what balekeep.pick and balekeep.prefix answer.
-/
import Derived.Test.YthdmjmnkhlpnnaaCanon
import Derived.Test.YthdmjmnkhlpnnaaRef
namespace Go.Proofs.Ythdmjmnkhlpnnaa
open Go.RowKit

/-- i comes ahead of k -/
def Ahead (zs : List Int) (i k : Nat) : Prop := zs.getD i 0 < zs.getD k 0 ∨ zs.getD i 0 = zs.getD k 0 ∧ i < k
theorem ahead_total (zs : List Int) {i k : Nat} (h : i ≠ k) : Ahead zs i k ∨ Ahead zs k i := by
  unfold Ahead; omega
theorem aw_self (zs : List Int) (i : Nat) : aw zs i i = 0 := by unfold aw; rw [if_neg (by omega)]
theorem aw_ahead {zs : List Int} {i k : Nat} (h : Ahead zs i k) (h0 : 0 < zs.getD i 0) : aw zs k i = 2 ^ (15 - (zs.getD i 0).toNat) := by
  unfold aw Ahead at *
  rw [if_pos ⟨h0, h⟩]
theorem aw_mono {zs : List Int} {i k : Nat} (h : Ahead zs i k) (j : Nat) : aw zs i j ≤ aw zs k j := by
  unfold aw Ahead at *
  by_cases h1 : 0 < zs.getD j 0 ∧ (zs.getD j 0 < zs.getD i 0 ∨ zs.getD j 0 = zs.getD i 0 ∧ j < i)
  · rw [if_pos h1, if_pos (by omega)]; omega
  · rw [if_neg h1]; omega
theorem ahd_gap {zs : List Int} {i k : Nat} (h : Ahead zs i k) (h0 : 0 < zs.getD i 0) (n : Nat) : ahd zs i n + (if i < n then 2 ^ (15 - (zs.getD i 0).toNat) else 0) ≤ ahd zs k n := by
  induction n with
  | zero => simp [ahd]
  | succ n ih =>
    simp only [ahd]
    have hm := aw_mono h n
    by_cases hin : i = n
    · subst hin
      have := aw_ahead h h0
      rw [aw_self]
      rw [if_neg (by omega)] at ih
      rw [if_pos (by omega), this]
      omega
    · by_cases hl : i < n
      · rw [if_pos hl] at ih; rw [if_pos (by omega)]; omega
      · rw [if_neg hl] at ih; rw [if_neg (by omega)]; omega
theorem ahd_tot {zs : List Int} {i : Nat} (h0 : 0 < zs.getD i 0) (n : Nat) (hn : n ≤ zs.length) : ahd zs i n + (if i < n then 2 ^ (15 - (zs.getD i 0).toNat) else 0) ≤ wt (zs.take n) := by
  induction n with
  | zero => simp [ahd]
  | succ n ih =>
    have ih := ih (by omega)
    rw [wt_take_succ zs n (by omega)]
    simp only [ahd]
    by_cases hin : i = n
    · subst hin
      rw [aw_self]
      rw [if_neg (by omega)] at ih
      rw [if_pos (by omega), if_pos h0]
      omega
    · have hw : aw zs i n ≤ if 0 < zs.getD n 0 then 2 ^ (15 - (zs.getD n 0).toNat) else 0 := by
        unfold aw
        by_cases h1 : 0 < zs.getD n 0
        · rw [if_pos h1]
          split
          · exact Nat.le_refl _
          · exact Nat.zero_le _
        · rw [if_neg h1, if_neg (by omega)]
          exact Nat.le_refl _
      by_cases hl : i < n
      · rw [if_pos hl] at ih; rw [if_pos (by omega)]; omega
      · rw [if_neg hl] at ih; rw [if_neg (by omega)]; omega
theorem ahd_num (zs : List Int) (i : Nat) (hi : i < zs.length) (h0 : 0 < zs.getD i 0) (h15 : zs.getD i 0 ≤ 15) : ahd zs i zs.length = bt zs i * 2 ^ (15 - (zs.getD i 0).toNat) := by
  rw [ahd_eq zs i h0 zs.length (Nat.le_refl _), List.take_length, low_eq zs _ (by omega), show min zs.length i = i by omega, ← Nat.add_mul]
  unfold bt
  rw [if_pos h0]
theorem bt_lt {zs : List Int} (hw : wt zs ≤ 32768) {i : Nat} (hi : i < zs.length) (h0 : 0 < zs.getD i 0) (h15 : zs.getD i 0 ≤ 15) : bt zs i < 2 ^ (zs.getD i 0).toNat := by
  have h1 := ahd_tot h0 zs.length (Nat.le_refl _)
  rw [if_pos hi, List.take_length, ahd_num zs i hi h0 h15] at h1
  have e : (2 : Nat) ^ (zs.getD i 0).toNat * 2 ^ (15 - (zs.getD i 0).toNat) = 32768 := by
    rw [← Nat.pow_add, show (zs.getD i 0).toNat + (15 - (zs.getD i 0).toNat) = 15 by omega]
  have hp : 0 < (2 : Nat) ^ (15 - (zs.getD i 0).toNat) := Nat.two_pow_pos _
  rcases Nat.lt_or_ge (bt zs i) (2 ^ (zs.getD i 0).toNat) with h | h
  · exact h
  · have := Nat.mul_le_mul_right (2 ^ (15 - (zs.getD i 0).toNat)) h
    omega
/-- the bits of k don't begin with those of i -/
theorem no_prefix {zs : List Int} {i k : Nat} (hi : i < zs.length) (hk : k < zs.length) (hne : i ≠ k) (hi0 : 0 < zs.getD i 0) (hk0 : 0 < zs.getD k 0) (hi15 : zs.getD i 0 ≤ 15) (hk15 : zs.getD k 0 ≤ 15) (hle : (zs.getD i 0).toNat ≤ (zs.getD k 0).toNat) :
    bt zs k / 2 ^ ((zs.getD k 0).toNat - (zs.getD i 0).toNat) ≠ bt zs i := by
  intro e
  have a1 := ahd_num zs i hi hi0 hi15
  have a2 := ahd_num zs k hk hk0 hk15
  obtain ⟨x, hx⟩ : ∃ x, x = (zs.getD i 0).toNat := ⟨_, rfl⟩
  obtain ⟨y, hy⟩ : ∃ y, y = (zs.getD k 0).toNat := ⟨_, rfl⟩
  have hy15 : y ≤ 15 := by omega
  have g1 : Ahead zs i k → ahd zs i zs.length + 2 ^ (15 - x) ≤ ahd zs k zs.length := fun h => by
    have := ahd_gap h hi0 zs.length
    rw [if_pos hi, ← hx] at this
    exact this
  have g2 : Ahead zs k i → ahd zs k zs.length + 2 ^ (15 - y) ≤ ahd zs i zs.length := fun h => by
    have := ahd_gap h hk0 zs.length
    rw [if_pos hk, ← hy] at this
    exact this
  rw [← hx, ← hy] at hle e
  rw [← hx] at a1
  rw [← hy] at a2
  have hp : 0 < (2 : Nat) ^ (y - x) := Nat.two_pow_pos _
  have hp2 : 0 < (2 : Nat) ^ (15 - y) := Nat.two_pow_pos _
  have e2 : (2 : Nat) ^ (15 - x) = 2 ^ (y - x) * 2 ^ (15 - y) := by rw [← Nat.pow_add]; congr 1; omega
  have hm := Nat.div_add_mod (bt zs k) (2 ^ (y - x))
  have hlt := Nat.mod_lt (bt zs k) hp
  rw [e] at hm
  generalize bt zs k % 2 ^ (y - x) = r at hm hlt
  have b1 : bt zs i * 2 ^ (y - x) ≤ bt zs k := by rw [Nat.mul_comm]; omega
  have b2 : bt zs k < (bt zs i + 1) * 2 ^ (y - x) := by rw [Nat.add_mul, Nat.mul_comm (bt zs i)]; omega
  have c1 := Nat.mul_le_mul_right (2 ^ (15 - y)) b1
  have c2 := Nat.mul_lt_mul_of_pos_right b2 hp2
  rw [Nat.mul_assoc, ← e2, ← a1, ← a2] at c1
  rw [Nat.mul_assoc, ← e2, Nat.add_mul, Nat.one_mul, ← a1, ← a2] at c2
  rcases ahead_total zs hne with h | h
  · have := g1 h; omega
  · have := g2 h; omega

/-- what pick answers -/
def pk (c n : Int) : Int := (if c < 0 then -(c + 1) else c) % n
theorem pk_range (c n : Int) (h : 0 < n) : 0 ≤ pk c n ∧ pk c n < n := ⟨Int.emod_nonneg _ (by omega), Int.emod_lt_of_pos _ h⟩

set_option maxHeartbeats 400000 in
theorem pick_any (c n : Int) (w : World) (h0 : 0 < n) (hn : n ≤ 1000) (hc : -9223372036854775808 ≤ c ∧ c ≤ 9223372036854775807) :
    Calls Try.prog 11 #[.int .i64 c, .int .i64 n] w fun e w' => e = .returned (.int .i64 (pk c n)) ∧ w = w' := by
  by_cases h : c < 0
  · have e : pk c n = -(c + 1) % n := by unfold pk; rw [if_pos h]
    have hr := pk_range c n h0
    rw [e] at hr ⊢
    go_enter Try.func11, Try.ntmps11
    go_wp2
    go_ret
    refine ⟨ret_int' ?_, rfl⟩
    rw [← Int.neg_tmod, Int.tmod_eq_emod_of_nonneg (by omega)]
  · have e : pk c n = c % n := by unfold pk; rw [if_neg h]
    have hr := pk_range c n h0
    rw [e] at hr ⊢
    go_enter Try.func11, Try.ntmps11
    go_wp2
    go_ret
    exact ⟨rfl, rfl⟩

/-- what prefix answers -/
def pre (a n b m : Nat) : Bool := decide (n ≤ m ∧ b / 2 ^ (m - n) = a)

set_option maxHeartbeats 400000 in
theorem prefix_any (a n b m : Nat) (w : World) (hb : b ≤ 1000000000) (hn : n ≤ 15) (hm : m ≤ 15) :
    Calls Try.prog 14 #[.int .i64 a, .int .i64 n, .int .i64 b, .int .i64 m] w fun e w' => e = .returned (.bool (pre a n b m)) ∧ w = w' := by
  go_enter Try.func14, Try.ntmps14
  go_wp2
  go_loop [2, 3] (fun x y => ∃ q t : Nat, x = .int .i64 q ∧ y = .int .i64 t ∧ q ≤ b ∧ t ≤ m ∧ (n ≤ m → n ≤ t) ∧ (m < n → t = m) ∧ Hid (q = b / 2 ^ (m - t))) (fun _ y => (intOf y).toNat)
  case atStart => exact ⟨b, m, rfl, rfl, by omega, by omega, by omega, by omega, by show _ = _; simp⟩
  case round =>
    obtain ⟨q, t, rfl, rfl, hq, ht, h1, h2, HQ⟩ := hrel
    by_cases hlt : n < t
    · have HQ' : Hid (q / 2 = b / 2 ^ (m - (t - 1))) := by
        show _ = _
        rw [HQ.out, Nat.div_div_eq_div_mul, ← Nat.pow_succ]
        congr 2
        omega
      go_wp2
      go_round
      case rel => exact ⟨q / 2, t - 1, by go_num, by go_num, by omega, by omega, by omega, by omega, HQ'⟩
      case measure => simp [intOf]; omega
    · by_cases hnt : n = t
      · subst hnt
        by_cases hab : a = q
        · have e : pre a n b m = true := decide_eq_true ⟨ht, by rw [← HQ.out, hab]⟩
          have HE := hid e
          clear e
          subst hab
          go_wp2
          go_ret
          exact ⟨ret_bool HE.out.symm, rfl⟩
        · have e : pre a n b m = false := decide_eq_false fun h => hab (by rw [HQ.out, h.2])
          have HE := hid e
          clear e
          go_wp2
          go_ret
          refine ⟨ret_bool (Eq.trans ?_ HE.out.symm), rfl⟩
          simp
          omega
      · have e : pre a n b m = false := decide_eq_false fun h => by omega
        have HE := hid e
        clear e
        go_wp2
        go_ret
        exact ⟨ret_bool HE.out.symm, rfl⟩
end Go.Proofs.Ythdmjmnkhlpnnaa
