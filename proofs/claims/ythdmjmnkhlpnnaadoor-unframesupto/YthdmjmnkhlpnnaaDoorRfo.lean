/-
  What baleref.Codes answers lies in memory of its own.
-/
import Derived.Test.YthdmjmnkhlpnnaaDoorRef
namespace Go.Proofs.YthdmjmnkhlpnnaaDoor
open Go.RowKit

set_option maxRecDepth 20000 in
set_option maxHeartbeats 1000000 in
theorem refcodes_own (ao : Option Addr) (c : Nat) (zs : List Int) (w : World) (hs : Seg w ao zs) (hm : zs.length ≤ 320) (hok : zs.any nl = false) (hw : wt zs ≤ 32768) :
    Calls Tryd.prog 55 #[.slice ao zs.length c] w fun e w' => ∃ ao' c', e = .returned (.tuple #[.slice ao' (bts zs).length c', .int .i64 0]) ∧ w'.ownsRow w.heap.size 3 1 (.slice ao' (bts zs).length c') (bts zs).length ((bts zs).map (Value.int .i64)) ∧ Below w.heap.size w w' := by
  obtain ⟨i0, hi, hz0, hz1, hz2⟩ := info_parts info3
  have hf : (!zs.any nl && decide (zs.length ≤ 320)) = true := by simp [hok, hm]
  have HOK : Hid (zs.any nl = false) := hok
  go_enter Tryd.func55, Tryd.ntmps55
  go_wp2_with (first | (go_at_call 82; refine (right_any _ _ _ _ hs (by unfold maxLen; omega)).mono ?_; rintro e w' ⟨rfl, rfl⟩) | (go_at_call 57; refine (refweight_any _ _ _ _ hs hm hok).mono ?_; rintro e w' ⟨rfl, rfl⟩) | (go_at_call 35; refine (power_any _ _ (by omega) (by omega)).mono ?_; rintro e w' ⟨rfl, rfl⟩))
  clear hok hf hw
  go_loopw [5, 6] (fun v i wr => ∃ k : Nat, k ≤ zs.length ∧ i = .int .i64 k ∧ wr.ownsRow w.heap.size 3 1 v k (((bts zs).take k).map (Value.int .i64)) ∧ Below w.heap.size w wr) (fun _ i _ => zs.length - (intOf i).toNat)
  case atStart => exact ⟨0, by omega, rfl, World.ownsRow_nil _ _ _ _, Below.refl _ _⟩
  case round =>
    obtain ⟨i, hik, rfl, hown, hB⟩ := hrel
    by_cases hlt : i < zs.length
    · obtain ⟨b, off, rfl, hc⟩ := hs (by omega)
      obtain ⟨x, hx⟩ : ∃ z, z = zs.getD i 0 := ⟨_, rfl⟩
      have hcx : w.cell? ⟨b, off + i, none⟩ = some (.int .i64 x) := by rw [hx]; exact hc i hlt
      have hbl : b < w.heap.size := World.block_lt_of_cell? w _ hcx
      have hxb := ok_getD HOK.out i
      rw [← hx] at hxb
      have HX : Hid (x = zs.getD i 0) := hx
      have HC : Hid (∀ j, j < zs.length → w.cell? ⟨b, off + j, none⟩ = some (.int .i64 (zs.getD j 0))) := hc
      have HCX : Hid (w.cell? ⟨b, off + i, none⟩ = some (.int .i64 x)) := hcx
      clear hx hs hc hcx
      go_wp2
      go_loopw [7, 8] (fun t j wq => ∃ k q : Nat, k ≤ zs.length ∧ j = .int .i64 k ∧ Hid (q = if 0 < x then ahd zs i k else 0) ∧ q ≤ 16384 * k ∧ t = .int .i64 q ∧ wq.ownsRow w.heap.size 3 1 u5 i (((bts zs).take i).map (Value.int .i64)) ∧ Below w.heap.size w wq) (fun _ j _ => zs.length - (intOf j).toNat)
      case atStart => exact ⟨0, 0, by omega, rfl, by show _ = _; simp [ahd], by omega, rfl, hown, hB⟩
      case round =>
        clear hown hB
        obtain ⟨k, q, hk, rfl, HQ, hq, rfl, hown, hB⟩ := hrel
        have hcx : wr.cell? ⟨b, off + i, none⟩ = some (.int .i64 x) := (hB.cell (p := ⟨b, off + i, none⟩) hbl).trans HCX.out
        by_cases hgo : k < zs.length ∧ 0 < x
        · obtain ⟨hkl, hx0⟩ := hgo
          obtain ⟨y, hy⟩ : ∃ z, z = zs.getD k 0 := ⟨_, rfl⟩
          have hcy : wr.cell? ⟨b, off + k, none⟩ = some (.int .i64 y) := (hB.cell (p := ⟨b, off + k, none⟩) hbl).trans (by rw [hy]; exact HC.out k hkl)
          have hyb := ok_getD HOK.out k
          rw [← hy] at hyb
          have HY : Hid (y = zs.getD k 0) := hy
          clear hy
          have HAW : Hid (aw zs i k = if 0 < y ∧ (y < x ∨ y = x ∧ k < i) then 2 ^ (15 - y.toNat) else 0) := by show _ = _; unfold aw; rw [← HX.out, ← HY.out]
          by_cases hyes : 0 < y ∧ (y < x ∨ y = x ∧ k < i)
          · have hy0 : 0 < y := hyes.1
            have dy0 : decide (0 < y) = true := by simpa using hy0
            obtain ⟨p, hpw⟩ : ∃ p : Nat, p = 2 ^ (15 - y.toNat) := ⟨_, rfl⟩
            have hb1 : (2 : Nat) ^ (15 - y.toNat) ≤ 2 ^ 14 := Nat.pow_le_pow_right (by omega) (by omega)
            rw [← hpw] at hb1
            have HP2 : Hid (((2 ^ (15 - y).toNat : Nat) : Int) = (p : Int)) := by show _ = _; rw [hpw, show (15 - y).toNat = 15 - y.toNat by omega]
            have HQ' : Hid (q + p = if 0 < x then ahd zs i (k + 1) else 0) := by show _ = _; rw [if_pos hx0, ahd, HAW.out, if_pos hyes, HQ.out, if_pos hx0, hpw]
            clear hpw
            by_cases hyx : y < x
            · have dyx : decide (y < x) = true := by simpa using hyx
              clear hyes
              go_wp2
              go_quiet (fail)
              go_wp2_with (go_at_call 35; refine (power_any _ _ (by omega) (by omega)).mono ?_; rintro e w' ⟨rfl, rfl⟩; rw [HP2.out])
              go_roundw
              case rel => exact ⟨k + 1, q + p, by omega, by go_num, HQ', by omega, by go_num, hown, below_drewN' hB _⟩
              case measure => simp [intOf]; omega
            · have dyx : decide (y < x) = false := by simpa using hyx
              have e1 : (y == x) = true := by simp; omega
              have e2 : decide ((k : Int) < (i : Int)) = true := by simp; omega
              have hki : k < i := by omega
              clear hyes
              go_wp2
              go_quiet (fail)
              go_wp2_with (go_at_call 35; refine (power_any _ _ (by omega) (by omega)).mono ?_; rintro e w' ⟨rfl, rfl⟩; rw [HP2.out])
              go_roundw
              case rel => exact ⟨k + 1, q + p, by omega, by go_num, HQ', by omega, by go_num, hown, below_drewN' hB _⟩
              case measure => simp [intOf]; omega
          · have HQ' : Hid (q = if 0 < x then ahd zs i (k + 1) else 0) := by show _ = _; rw [if_pos hx0, ahd, HAW.out, if_neg hyes, HQ.out, if_pos hx0]; rfl
            by_cases hy0 : 0 < y
            · have dy0 : decide (0 < y) = true := by simpa using hy0
              have hyx : ¬ y < x := by omega
              have dyx : decide (y < x) = false := by simpa using hyx
              by_cases hex : y = x
              · have e1 : (y == x) = true := by simp; omega
                have e2 : decide ((k : Int) < (i : Int)) = false := by simp; omega
                have hki : ¬ k < i := by omega
                have HEX : Hid (y = x) := hex
                clear hyes hex
                go_wp2
                go_quiet (fail)
                go_wp2
                go_roundw
                case rel => exact ⟨k + 1, q, by omega, by go_num, HQ', by omega, by go_num, hown, below_drewN' hB _⟩
                case measure => simp [intOf]; omega
              · have e1 : (y == x) = false := by simpa using hex
                clear hyes hex
                go_wp2
                go_quiet (fail)
                go_wp2
                go_roundw
                case rel => exact ⟨k + 1, q, by omega, by go_num, HQ', by omega, by go_num, hown, below_drewN' hB _⟩
                case measure => simp [intOf]; omega
            · have dy0 : decide (0 < y) = false := by simpa using hy0
              clear hyes
              go_wp2
              go_quiet (fail)
              go_wp2
              go_roundw
              case rel => exact ⟨k + 1, q, by omega, by go_num, HQ', by omega, by go_num, hown, below_drewN' hB _⟩
              case measure => simp [intOf]; omega
        · have HQ' : Hid (q / 2 ^ (15 - x.toNat) = bt zs i) := by
            show _ = _
            by_cases hx0 : 0 < x
            · have hkk : k = zs.length := by omega
              rw [HQ.out, if_pos hx0, hkk, HX.out]
              exact ahd_bt zs i hlt (by rw [← HX.out]; exact hx0) (by rw [← HX.out]; omega)
            · rw [HQ.out, if_neg hx0]
              unfold bt
              rw [← HX.out, if_neg hx0]
              simp
          obtain ⟨p, hpw⟩ : ∃ p : Nat, p = 2 ^ (15 - x.toNat) := ⟨_, rfl⟩
          have hb0 : 1 ≤ p := by rw [hpw]; exact Nat.one_le_two_pow
          have hb1 : (2 : Nat) ^ (15 - x.toNat) ≤ 2 ^ 15 := Nat.pow_le_pow_right (by omega) (by omega)
          rw [← hpw] at hb1
          have HP2 : Hid (((2 ^ (15 - x).toNat : Nat) : Int) = (p : Int)) := by show _ = _; rw [hpw, show (15 - x).toNat = 15 - x.toNat by omega]
          have HBT : Hid (((bt zs i : Nat) : Int) = (q : Int) / (p : Int)) := by
            show _ = _
            rw [← HQ'.out, ← hpw]
            exact Int.natCast_ediv q p
          have hqp : 0 ≤ (q : Int) / (p : Int) ∧ (q : Int) / (p : Int) ≤ (q : Int) := ⟨Int.ediv_nonneg (by omega) (by omega), Int.ediv_le_self _ (by omega)⟩
          clear hpw
          by_cases hkl : k < zs.length
          · have hx0 : ¬ 0 < x := fun h => hgo ⟨hkl, h⟩
            clear hgo
            go_wp2_with (first | (go_at_call 35; refine (power_any _ _ (by omega) (by omega)).mono ?_; rintro e w' ⟨rfl, rfl⟩; rw [HP2.out]) | (at_builtin; refine wpList_append_own _ rfl (.tmp 76) (.tmp 85) 45 rfl w.heap.size 3 i0 (.int .i64 0) 1 8 Tryd.underlying45 hi hz0 hz1 hz2 rfl (by decide) _ _ _ rfl (hown.alloc _) ⟨wr.heap.size, 0, none⟩ 1 1 [.int .i64 ((q : Int) / (p : Int))] rfl rfl (cell_one_new _ _ _) ?c2a ?c3a ?c4a ?c5a ?_))
            case c2a => intro u hu; simp at hu; subst hu; rfl
            case c3a => unfold maxLen; omega
            case c4a => omega
            case c5a => have := hB.size; simp; omega
            intro v' w1 hown' hgrow hnn
            clear hnn
            have R := hid (step_app hlt HBT.out hown hB hown' hgrow)
            clear hown hown' hgrow hqp hb0 hb1 hcx hq
            go_wp2
            go_roundw
            case rel => exact ⟨i + 1, by omega, by go_num, R.out.1, R.out.2⟩
            case measure => simp [intOf]; omega
          · clear hgo
            go_wp2_with (first | (go_at_call 35; refine (power_any _ _ (by omega) (by omega)).mono ?_; rintro e w' ⟨rfl, rfl⟩; rw [HP2.out]) | (at_builtin; refine wpList_append_own _ rfl (.tmp 76) (.tmp 85) 45 rfl w.heap.size 3 i0 (.int .i64 0) 1 8 Tryd.underlying45 hi hz0 hz1 hz2 rfl (by decide) _ _ _ rfl (hown.alloc _) ⟨wr.heap.size, 0, none⟩ 1 1 [.int .i64 ((q : Int) / (p : Int))] rfl rfl (cell_one_new _ _ _) ?c2b ?c3b ?c4b ?c5b ?_))
            case c2b => intro u hu; simp at hu; subst hu; rfl
            case c3b => unfold maxLen; omega
            case c4b => omega
            case c5b => have := hB.size; simp; omega
            intro v' w1 hown' hgrow hnn
            clear hnn
            have R := hid (step_app hlt HBT.out hown hB hown' hgrow)
            clear hown hown' hgrow hqp hb0 hb1 hcx hq
            go_wp2
            go_roundw
            case rel => exact ⟨i + 1, by omega, by go_num, R.out.1, R.out.2⟩
            case measure => simp [intOf]; omega
    · go_wp2
      go_ret2
      have e1 : (bts zs).take i = bts zs := List.take_of_length_le (by rw [bts_length]; omega)
      rw [e1] at hown
      obtain ⟨ao', c', rfl, -⟩ := owns_seg hown
      refine ⟨ao', c', rfl, ?_, hB⟩
      have hn := hown.1
      rw [List.length_map, Nat.mul_one] at hn
      rw [← hn] at hown
      exact hown
end Go.Proofs.YthdmjmnkhlpnnaaDoor
