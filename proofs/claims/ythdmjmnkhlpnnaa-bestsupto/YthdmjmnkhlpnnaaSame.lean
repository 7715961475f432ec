/-
  What balelaw.same answers: are two lists of numbers the same?
-/
import Derived.Test.YthdmjmnkhlpnnaaReads
import Derived.Deep.QuietTactic
import Derived.BigQuiet
namespace Go.Proofs.Ythdmjmnkhlpnnaa
open Go.RowKit

theorem Seg.drewN {w : World} {ao : Option Addr} {zs : List Int} (h : Seg w ao zs) (n : Nat) : Seg (w.drewN n) ao zs := by
  intro h0
  obtain ⟨b, off, e, hc⟩ := h h0
  exact ⟨b, off, e, fun j hj => by simpa using hc j hj⟩

set_option maxHeartbeats 400000 in
theorem same_any (a1 a2 : Option Addr) (c1 c2 : Nat) (xs ys : List Int) (w : World) (h1 : Seg w a1 xs) (h2 : Seg w a2 ys) (hm1 : xs.length ≤ maxLen) :
    Calls Try.prog 18 #[.slice a1 xs.length c1, .slice a2 ys.length c2] w fun e w' => e = .returned (.bool (decide (xs = ys))) ∧ ∃ n, w' = w.drewN n := by
  unfold maxLen at hm1
  by_cases hlen : xs.length = ys.length
  · have hle : xs.length ≤ ys.length := by omega
    have hge : ys.length ≤ xs.length := by omega
    clear hlen
    go_enter Try.func18, Try.ntmps18
    go_wp2
    go_loopw [5] (fun i wr => ∃ k n : Nat, k ≤ xs.length ∧ i = .int .i64 k ∧ Hid (xs.take k = ys.take k) ∧ wr = w.drewN n) (fun i _ => xs.length - (intOf i).toNat)
    case atStart => exact ⟨0, 0, by omega, rfl, rfl, rfl⟩
    case round =>
      obtain ⟨k, n, hk, rfl, HA, rfl⟩ := hrel
      by_cases hlt : k < xs.length
      · obtain ⟨b1, off1, rfl, hc1⟩ := h1.drewN n (by omega)
        obtain ⟨b2, off2, rfl, hc2⟩ := h2.drewN n (by omega)
        obtain ⟨x, hx⟩ : ∃ z, z = xs.getD k 0 := ⟨_, rfl⟩
        obtain ⟨y, hy⟩ : ∃ z, z = ys.getD k 0 := ⟨_, rfl⟩
        have hcell1 : w.cell? ⟨b1, off1 + k, none⟩ = some (.int .i64 x) := by rw [hx]; simpa using hc1 k hlt
        have hcell2 : w.cell? ⟨b2, off2 + k, none⟩ = some (.int .i64 y) := by rw [hy]; simpa using hc2 k (by omega)
        have HX : Hid (x = xs.getD k 0) := hx
        have HY : Hid (y = ys.getD k 0) := hy
        clear hx hy hc1 hc2 h1 h2
        by_cases hxy : x = y
        · have hne : (x != y) = false := by simp [hxy]
          have HXY : Hid (x = y) := hxy
          clear hxy
          go_wp2
          go_quiet (fail)
          go_wp2
          go_roundw
          case rel => exact ⟨k + 1, _, by omega, by go_num, by show _ = _; rw [take_snocI xs k hlt, take_snocI ys k (by omega), HA.out, ← HX.out, ← HY.out, HXY.out], rfl⟩
          case measure => simp [intOf]; omega
        · have hne : (x != y) = true := by simp [hxy]
          have HXY : Hid (¬ x = y) := hxy
          clear hxy
          go_wp2
          go_quiet (fail)
          go_wp2
          go_ret
          refine ⟨ret_bool ?_, n + nq, by simp⟩
          have : ¬ xs = ys := fun e => HXY.out (by rw [HX.out, HY.out, e])
          simp [this]
      · go_wp2
        go_ret
        refine ⟨ret_bool ?_, _, rfl⟩
        have := HA.out
        rw [List.take_of_length_le (by omega), List.take_of_length_le (by omega)] at this
        simp [this]
  · have hne : ((xs.length : Int) != ys.length) = true := by simp; omega
    have HL : Hid (¬ xs.length = ys.length) := hlen
    clear hlen
    go_enter Try.func18, Try.ntmps18
    go_wp2
    go_ret
    refine ⟨ret_bool ?_, 0, rfl⟩
    have : ¬ xs = ys := fun e => HL.out (by rw [e])
    simp [this]
end Go.Proofs.Ythdmjmnkhlpnnaa
