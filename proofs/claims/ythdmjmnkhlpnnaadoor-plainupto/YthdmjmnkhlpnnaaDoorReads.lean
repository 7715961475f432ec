/-
  What the functions that only read answer: power, isNoLength, IndexFunc, ContainsFunc, weight, Right, Weight, num.
-/
import Derived.Test.YthdmjmnkhlpnnaaDoorState
import Derived.WalkKit
import Derived.WalkSpells
import Derived.WalkLawsBesides
namespace Go.Proofs.YthdmjmnkhlpnnaaDoor
open Go.RowKit

/-- the numbers of a slice lie in memory -/
def Seg (w : World) (ao : Option Addr) (zs : List Int) : Prop :=
  0 < zs.length → ∃ b off, ao = some ⟨b, off, none⟩ ∧ ∀ j, j < zs.length → w.cell? ⟨b, off + j, none⟩ = some (.int .i64 (zs.getD j 0))

theorem ret_int' {k : IntKind} {a b : Int} (h : a = b) : Ending.returned (.int k a) = .returned (.int k b) := by rw [h]
theorem ret_bool {a b : Bool} (h : a = b) : Ending.returned (.bool a) = .returned (.bool b) := by rw [h]

theorem pow_le15 (n : Nat) (h : n ≤ 15) : 1 ≤ 2 ^ n ∧ 2 ^ n ≤ 32768 :=
  ⟨Nat.one_le_two_pow, Nat.pow_le_pow_right (by omega) h⟩

set_option maxHeartbeats 400000 in
theorem num_any (n : Int) (w : World) : Calls Tryd.prog 8 #[.int .i64 n] w fun e w' => e = .returned (.int .i64 n) ∧ w = w' := by
  go_enter Tryd.func8, Tryd.ntmps8
  go_wp2
  go_ret
  exact ⟨rfl, rfl⟩

set_option maxHeartbeats 400000 in
theorem power_any (n : Int) (w : World) (h0 : 0 ≤ n) (h1 : n ≤ 15) :
    Calls Tryd.prog 35 #[.int .i64 n] w fun e w' => e = .returned (.int .i64 ((2 ^ n.toNat : Nat) : Int)) ∧ w = w' := by
  go_enter Tryd.func35, Tryd.ntmps35
  go_wp2
  go_loop [3, 4] (fun p i => ∃ k q : Nat, (k : Int) ≤ n ∧ i = .int .i64 k ∧ q ≤ 32768 ∧ Hid (q = 2 ^ k) ∧ p = .int .i64 q) (fun _ i => n.toNat - (intOf i).toNat)
  case atStart => exact ⟨0, 1, by omega, rfl, by omega, rfl, rfl⟩
  case round =>
    obtain ⟨k, q, hk, rfl, hq, HQ, rfl⟩ := hrel
    by_cases hlt : (k : Int) < n
    · have hp := (pow_le15 (k + 1) (by omega)).2
      have HQ' : Hid (2 * q = 2 ^ (k + 1)) := by show _ = _; rw [HQ.out, Nat.pow_succ]; omega
      have hq2 : 2 * q ≤ 32768 := by rw [HQ'.out]; exact hp
      clear hp
      go_wp2
      go_round
      case rel => exact ⟨k + 1, 2 * q, by omega, by go_num, hq2, HQ', by go_num⟩
      case measure => simp [intOf]; omega
    · go_wp2
      go_ret
      refine ⟨ret_int' ?_, rfl⟩
      rw [HQ.out, show n.toNat = k by omega]
      simp

/-- is a number no length? -/
def nl (z : Int) : Bool := decide (z < 0) || decide (15 < z)

theorem take_snocI (zs : List Int) (k : Nat) (h : k < zs.length) : zs.take (k + 1) = zs.take k ++ [zs.getD k 0] := by
  rw [List.take_succ_eq_append_getElem h]; simp [List.getD, h]

/-- the weight of a code -/
def wt : List Int → Nat
  | [] => 0
  | z :: r => (if 0 < z then 2 ^ (15 - z.toNat) else 0) + wt r
theorem wt_append (l r : List Int) : wt (l ++ r) = wt l + wt r := by
  induction l with
  | nil => simp [wt]
  | cons z l ih => simp only [List.cons_append, wt, ih]; omega
theorem wt_le (l : List Int) : wt l ≤ 16384 * l.length := by
  induction l with
  | nil => simp [wt]
  | cons z l ih =>
    simp only [wt, List.length_cons]
    split
    · have : 2 ^ (15 - z.toNat) ≤ 2 ^ 14 := Nat.pow_le_pow_right (by omega) (by omega)
      omega
    · omega
theorem wt_take_succ (zs : List Int) (k : Nat) (h : k < zs.length) : wt (zs.take (k + 1)) = wt (zs.take k) + (if 0 < zs.getD k 0 then 2 ^ (15 - (zs.getD k 0).toNat) else 0) := by
  rw [take_snocI zs k h, wt_append]; simp [wt]
theorem ok_getD {zs : List Int} (h : zs.any nl = false) (k : Nat) : 0 ≤ zs.getD k 0 ∧ zs.getD k 0 ≤ 15 := by
  by_cases hk : k < zs.length
  · have := List.any_eq_false.1 h (zs.getD k 0) (by simp [List.getD, hk])
    generalize zs.getD k 0 = z at *
    simp [nl] at this
    omega
  · simp [List.getD, List.getElem?_eq_none (Nat.le_of_not_lt hk)]

theorem shr_eq (n : Nat) (h : n ≤ 15) : (32768 : Int) / 2 ^ n = ((2 ^ (15 - n) : Nat) : Int) := by
  have h1 := Nat.pow_div h (show 0 < 2 by omega)
  have h2 : (32768 : Int) / 2 ^ n = ((2 ^ 15 / 2 ^ n : Nat) : Int) := by simp
  rw [h2, h1]

set_option maxHeartbeats 400000 in
theorem weight_any (ao : Option Addr) (c : Nat) (zs : List Int) (w : World) (hs : Seg w ao zs) (hm : zs.length ≤ 320) (hok : zs.any nl = false) :
    Calls Tryd.prog 101 #[.slice ao zs.length c] w fun e w' => e = .returned (.int .i64 (wt zs)) ∧ w = w' := by
  have HOK : Hid (zs.any nl = false) := hok
  clear hok
  go_enter Tryd.func101, Tryd.ntmps101
  go_wp2
  go_loop [3, 8] (fun t i => ∃ k q : Nat, k ≤ zs.length ∧ i = .int .i64 k ∧ Hid (q = wt (zs.take k)) ∧ q ≤ 16384 * k ∧ t = .int .i64 q) (fun _ i => zs.length - (intOf i).toNat)
  case atStart => exact ⟨0, 0, by omega, rfl, rfl, by omega, rfl⟩
  case round =>
    obtain ⟨k, q, hk, rfl, HQ, hq, rfl⟩ := hrel
    by_cases hlt : k < zs.length
    · obtain ⟨b, off, rfl, hc⟩ := hs (by omega)
      obtain ⟨z, hz⟩ : ∃ z, z = zs.getD k 0 := ⟨_, rfl⟩
      have hcell : w.cell? ⟨b, off + k, none⟩ = some (.int .i64 z) := by rw [hz]; exact hc k hlt
      have hzb := ok_getD HOK.out k
      rw [← hz] at hzb
      have HZ : Hid (z = zs.getD k 0) := hz
      clear hz hc hs
      by_cases hp : 0 < z
      · have hsh := shr_eq z.toNat (by omega)
        have hb1 : (2 : Nat) ^ (15 - z.toNat) ≤ 2 ^ 14 := Nat.pow_le_pow_right (by omega) (by omega)
        have hb2 : 0 ≤ (32768 : Int) / 2 ^ z.toNat ∧ (32768 : Int) / 2 ^ z.toNat ≤ 16384 := by
          rw [hsh]; generalize (2 : Nat) ^ (15 - z.toNat) = p at *; omega
        have HSH : Hid ((32768 : Int) / 2 ^ z.toNat = ((2 ^ (15 - z.toNat) : Nat) : Int)) := hsh
        clear hsh
        go_wp2
        go_round
        case rel => exact ⟨k + 1, q + 2 ^ (15 - z.toNat), by omega, by go_num, by show _ = _; rw [wt_take_succ zs k hlt, ← HZ.out, if_pos hp, HQ.out], by omega, by rw [HSH.out]; go_num⟩
        case measure => simp [intOf]; omega
      · go_wp2
        go_round
        case rel => exact ⟨k + 1, q, by omega, by go_num, by show _ = _; rw [wt_take_succ zs k hlt, ← HZ.out, if_neg hp, HQ.out]; rfl, by omega, by go_num⟩
        case measure => simp [intOf]; omega
    · go_wp2
      go_ret
      refine ⟨ret_int' ?_, rfl⟩
      have := HQ.out
      rw [List.take_of_length_le (by omega)] at this
      rw [this]

set_option maxHeartbeats 400000 in
theorem right_any (ao : Option Addr) (c : Nat) (zs : List Int) (w : World) (hs : Seg w ao zs) (hm : zs.length ≤ maxLen) :
    Calls Tryd.prog 82 #[.slice ao zs.length c] w fun e w' => e = .returned (.bool (!zs.any nl && decide (zs.length ≤ 320))) ∧ w = w' := by
  unfold maxLen at hm
  go_enter Tryd.func82, Tryd.ntmps82
  go_wp2
  go_loop [3] (fun i => ∃ k : Nat, k ≤ zs.length ∧ i = .int .i64 k ∧ Hid ((zs.take k).any nl = false)) (fun i => zs.length - (intOf i).toNat)
  case atStart => exact ⟨0, by omega, rfl, rfl⟩
  case round =>
    obtain ⟨k, hk, rfl, HA⟩ := hrel
    by_cases hlt : k < zs.length
    · obtain ⟨b, off, rfl, hc⟩ := hs (by omega)
      obtain ⟨z, hz⟩ : ∃ z, z = zs.getD k 0 := ⟨_, rfl⟩
      have hcell : w.cell? ⟨b, off + k, none⟩ = some (.int .i64 z) := by rw [hz]; exact hc k hlt
      have HZ : Hid (z = zs.getD k 0) := hz
      clear hz hc hs
      have HY : Hid (nl z = true → zs.any nl = true) := fun hn => List.any_eq_true.2 ⟨z, by rw [HZ.out]; simp [List.getD, hlt], hn⟩
      by_cases h0 : z < 0
      · go_wp2
        go_ret
        exact ⟨ret_bool (by rw [HY.out (by simp [nl]; omega)]; rfl), rfl⟩
      by_cases h1 : 15 < z
      · go_wp2
        go_ret
        exact ⟨ret_bool (by rw [HY.out (by simp [nl]; omega)]; rfl), rfl⟩
      · have HN : Hid (nl z = false) := by show _ = _; simp [nl]; omega
        go_wp2
        go_round
        case rel => exact ⟨k + 1, by omega, by go_num, by show _ = _; rw [take_snocI zs k hlt, List.any_append, HA.out, ← HZ.out]; simp [HN.out]⟩
        case measure => simp [intOf]; omega
    · go_wp2
      go_ret
      have := HA.out
      rw [List.take_of_length_le (by omega)] at this
      refine ⟨ret_bool ?_, rfl⟩
      rw [this]
      simp
      omega

set_option maxHeartbeats 400000 in
theorem refweight_any (ao : Option Addr) (c : Nat) (zs : List Int) (w : World) (hs : Seg w ao zs) (hm : zs.length ≤ 320) (hok : zs.any nl = false) :
    Calls Tryd.prog 57 #[.slice ao zs.length c] w fun e w' => e = .returned (.int .i64 (wt zs)) ∧ w = w' := by
  have HOK : Hid (zs.any nl = false) := hok
  clear hok
  go_enter Tryd.func57, Tryd.ntmps57
  go_wp2
  go_loop [3, 4] (fun t i => ∃ k q : Nat, k ≤ zs.length ∧ i = .int .i64 k ∧ Hid (q = wt (zs.take k)) ∧ q ≤ 16384 * k ∧ t = .int .i64 q) (fun _ i => zs.length - (intOf i).toNat)
  case atStart => exact ⟨0, 0, by omega, rfl, rfl, by omega, rfl⟩
  case round =>
    obtain ⟨k, q, hk, rfl, HQ, hq, rfl⟩ := hrel
    by_cases hlt : k < zs.length
    · obtain ⟨b, off, rfl, hc⟩ := hs (by omega)
      obtain ⟨z, hz⟩ : ∃ z, z = zs.getD k 0 := ⟨_, rfl⟩
      have hcell : w.cell? ⟨b, off + k, none⟩ = some (.int .i64 z) := by rw [hz]; exact hc k hlt
      have hzb := ok_getD HOK.out k
      rw [← hz] at hzb
      have HZ : Hid (z = zs.getD k 0) := hz
      clear hz hc hs
      by_cases hp : 0 < z
      · obtain ⟨p, hpw⟩ : ∃ p : Nat, p = 2 ^ (15 - z.toNat) := ⟨_, rfl⟩
        have hb1 : (2 : Nat) ^ (15 - z.toNat) ≤ 2 ^ 14 := Nat.pow_le_pow_right (by omega) (by omega)
        rw [← hpw] at hb1
        have HP : Hid (p = 2 ^ (15 - z.toNat)) := hpw
        have HP2 : Hid (((2 ^ (15 - z).toNat : Nat) : Int) = (p : Int)) := by show _ = _; rw [hpw, show (15 - z).toNat = 15 - z.toNat by omega]
        clear hpw
        go_wp2_with (go_at_call 35; refine (power_any _ _ (by omega) (by omega)).mono ?_; rintro e w' ⟨rfl, rfl⟩; rw [HP2.out])
        go_round
        case rel => exact ⟨k + 1, q + p, by omega, by go_num, by show _ = _; rw [wt_take_succ zs k hlt, ← HZ.out, if_pos hp, HQ.out, HP.out], by omega, by go_num⟩
        case measure => simp [intOf]; omega
      · go_wp2
        go_round
        case rel => exact ⟨k + 1, q, by omega, by go_num, by show _ = _; rw [wt_take_succ zs k hlt, ← HZ.out, if_neg hp, HQ.out]; rfl, by omega, by go_num⟩
        case measure => simp [intOf]; omega
    · go_wp2
      go_ret
      refine ⟨ret_int' ?_, rfl⟩
      have := HQ.out
      rw [List.take_of_length_le (by omega)] at this
      rw [this]

end Go.Proofs.YthdmjmnkhlpnnaaDoor
