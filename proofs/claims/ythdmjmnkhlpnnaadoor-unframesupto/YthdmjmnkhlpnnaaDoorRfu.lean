/-
  The document's reader: is a code complete, and the sum of lengths.
-/
import Derived.Test.YthdmjmnkhlpnnaaDoorCdx
namespace Go.Proofs.YthdmjmnkhlpnnaaDoor
open Go.RowKit

theorem full_any (ao : Option Addr) (c : Nat) (zs : List Int) (w : World) (hs : Seg w ao zs) (hm : zs.length ≤ 320) (hok : zs.any nl = false) :
    Calls Tryd.prog 40 #[.slice ao zs.length c] w fun e w' => e = .returned (.bool (decide (wt zs = 32768))) ∧ w = w' := by
  have HW := hid (refweight_any ao c zs w hs hm hok)
  clear hs hok
  obtain ⟨x, hx⟩ : ∃ x, x = wt zs := ⟨_, rfl⟩
  rw [← hx] at HW
  rw [← hx]
  clear hx
  go_enter Tryd.func40, Tryd.ntmps40
  go_wp2_with (first | (go_at_call 57; refine HW.out.mono ?_; rintro e w' ⟨rfl, rfl⟩) | (go_at_call 35; refine (power_any 15 _ (by omega) (by omega)).mono ?_; rintro e w' ⟨rfl, rfl⟩))
  go_ret
  refine ⟨?_, rfl⟩
  have e1 : ((2 ^ (15 : Int).toNat : Nat) : Int) = 32768 := by decide
  by_cases h : x = 32768
  · subst h; rfl
  · have h1 : ((x : Int) == 32768) = false := by rw [beq_eq_false_iff_ne]; omega
    simp [h, h1]
    first | done | omega

/-- the sum of some lengths -/
def sm : List Int → Int
  | [] => 0
  | z :: zs => z + sm zs
theorem sm_take_succ (zs : List Int) (i : Nat) (h : i < zs.length) : sm (zs.take (i + 1)) = sm (zs.take i) + zs.getD i 0 := by
  induction zs generalizing i with
  | nil => simp at h
  | cons z zs ih =>
    cases i with
    | zero => simp [sm]
    | succ i =>
      rw [List.take_succ_cons, List.take_succ_cons, sm, sm, ih i (by simpa using h)]
      simp
      omega
theorem sm_bound (zs : List Int) (hok : zs.any nl = false) : 0 ≤ sm zs ∧ sm zs ≤ 15 * zs.length := by
  induction zs with
  | nil => simp [sm]
  | cons z zs ih =>
    simp only [List.any_cons, Bool.or_eq_false_iff] at hok
    have := ih hok.2
    have h1 := hok.1
    simp [nl] at h1
    simp [sm]
    omega
set_option maxHeartbeats 800000 in
theorem sum_any (ao : Option Addr) (c : Nat) (zs : List Int) (w : World) (hs : Seg w ao zs) (hm : zs.length ≤ 320) (hok : zs.any nl = false) :
    Calls Tryd.prog 42 #[.slice ao zs.length c] w fun e w' => e = .returned (.int .i64 (sm zs)) ∧ w = w' := by
  have HS := hid hs
  have HOK := hid hok
  clear hs hok
  go_enter Tryd.func42, Tryd.ntmps42
  go_wp2
  go_loop [3, 4] (fun t i => ∃ (k : Nat) (q : Int), k ≤ zs.length ∧ i = .int .i64 k ∧ Hid (q = sm (zs.take k)) ∧ 0 ≤ q ∧ q ≤ 15 * k ∧ t = .int .i64 q) (fun _ i => zs.length - (intOf i).toNat)
  case atStart => exact ⟨0, 0, by omega, rfl, rfl, by omega, by omega, rfl⟩
  case round =>
    obtain ⟨k, q, hk, rfl, HQ, hq0, hq, rfl⟩ := hrel
    by_cases hlt : k < zs.length
    · obtain ⟨b, off, rfl, hc⟩ := HS.out (by omega)
      obtain ⟨z, hz⟩ : ∃ z, z = zs.getD k 0 := ⟨_, rfl⟩
      have hcell : w.cell? ⟨b, off + k, none⟩ = some (.int .i64 z) := by rw [hz]; exact hc k hlt
      have hzb := ok_getD HOK.out k
      rw [← hz] at hzb
      have HZ : Hid (z = zs.getD k 0) := hz
      clear hz hc
      have w1 : IntKind.i64.wrap (q + z) = q + z := by rw [IntKind.wrap_i64]; omega
      go_wp2
      go_round
      case rel => exact ⟨k + 1, q + z, by omega, by go_num, by show _ = _; rw [sm_take_succ zs k hlt, ← HZ.out, HQ.out], by omega, by omega, rfl⟩
      case measure => simp [intOf]; omega
    · obtain rfl : k = zs.length := by omega
      go_wp2
      go_ret
      refine ⟨ret_int ?_, rfl⟩
      show q = _
      rw [HQ.out, List.take_length]
end Go.Proofs.YthdmjmnkhlpnnaaDoor
