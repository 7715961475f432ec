/-
  What baleref.Cost answers: what the chosen code costs.
-/
import Derived.Test.YthdmjmnkhlpnnaaRising
import Derived.Deep.AppendLies
import Derived.Deep.RegionLaw
namespace Go.Proofs.Ythdmjmnkhlpnnaa
open Go.RowKit
attribute [local go_sem ↓] Go.wp_at_zero Go.wp_at_succ

theorem isum_take_succ (l : List Int) (k : Nat) (h : k < l.length) : isum (l.take (k + 1)) = isum (l.take k) + l.getD k 0 := by
  rw [take_snocI l k h, isum_append]
  simp [isum]
theorem pairsI_getD : ∀ (l : List Int) (t : Nat), 2 * t + 1 < l.length → (pairsI l).getD t 0 = l.getD (2 * t) 0 + l.getD (2 * t + 1) 0
  | [], t, h => by simp at h
  | [_], t, h => by simp at h
  | a :: b :: r, 0, _ => by simp [pairsI]
  | a :: b :: r, t + 1, h => by
    have ih := pairsI_getD r t (by simp at h; omega)
    rw [show 2 * (t + 1) = 2 * t + 1 + 1 by omega, show 2 * t + 1 + 1 + 1 = (2 * t + 1) + 1 + 1 by omega]
    simp only [pairsI, List.getD_cons_succ]
    exact ih
theorem lv_bd {own : List Int} (h : ∀ x ∈ own, 0 < x ∧ x ≤ (1000000000 : Nat)) {k : Nat} (hk : k ≤ 15) {j : Nat} (hj : j < (lvI own k).length) : 0 < (lvI own k).getD j 0 ∧ (lvI own k).getD j 0 ≤ 32768000000000 := by
  have h1 := lvI_bound h k ((lvI own k).getD j 0) (by simp [List.getD, hj])
  have h2 := pow_bd 1000000000 k _ h1.2 hk
  exact ⟨h1.1, by omega⟩

set_option maxRecDepth 20000 in
set_option maxHeartbeats 4000000 in
theorem cost_any (ao : Option Addr) (c : Nat) (cs : List Int) (m : Nat) (w : World) (hs : Seg w ao cs) (h320 : cs.length ≤ 320) (hok : cs.any nc = false) (h1 : 1 ≤ m) (h15 : m ≤ 15) (hfew : (sing cs).length ≤ 2 ^ m) {C : List Ab} (hC : Chs (sing cs) m C) :
    Calls Try.prog 29 #[.slice ao cs.length c, .int .i64 m] w fun e w' => ∃ r : Int, e = .returned (.int .i64 r) ∧ r = isum (C.map Prod.fst) ∧ Below w.heap.size w w' := by
  obtain ⟨i0, hi, hz0, hz1, hz2⟩ := info_parts info3
  have HF := hid hfew
  have HC := hid hC
  clear hfew hC
  go_enter Try.func29, Try.ntmps29
  go_wp2_with fail
  refine (rising_any _ _ _ _ hs h320 hok).mono ?_
  rintro e w1 ⟨v, rfl, own, lo, lc, rfl, hol, hsr, hpm, hsg, hb⟩
  have HOWN : Hid (∀ x ∈ own, 0 < x ∧ x ≤ (1000000000 : Nat)) := fun x hx => by
    obtain ⟨y, hy, e⟩ := List.mem_map.1 (hpm.subset hx)
    have := sing_bound hok y hy
    rw [← e]
    exact ⟨this.1, this.2.1⟩
  have HEQ : Hid (isum (C.map Prod.fst) = costI own m) := cost_eq hsr hpm HF.out HC.out
  have HEN : Hid (2 ≤ own.length → 2 * own.length - 2 ≤ (lvI own m).length) := fun h => lvI_enough hsr hpm HF.out HC.out h
  have HSG := hid hsg
  have HB := hid hb
  have hol' : own.length ≤ 320 := by omega
  clear hs hsg hb hpm hsr hok hol HF HC
  by_cases h2 : own.length < 2
  · have HR : Hid (costI own m = isum own) := by show _ = _; unfold costI; rw [if_pos h2]
    go_wp2
    go_loop [6, 7] (fun p i => ∃ (k : Nat) (s : Int), k ≤ own.length ∧ i = .int .i64 k ∧ p = .int .i64 s ∧ 0 ≤ s ∧ s ≤ 1000000000 * k ∧ Hid (s = isum (own.take k))) (fun _ i => own.length - (intOf i).toNat)
    case atStart => exact ⟨0, 0, by omega, rfl, rfl, by omega, by omega, rfl⟩
    case round =>
      obtain ⟨k, s, hk, rfl, rfl, hs0, hs1, HS⟩ := hrel
      by_cases hlt : k < own.length
      · obtain ⟨b, off, rfl, hc⟩ := HSG.out (by omega)
        obtain ⟨x, hx⟩ : ∃ z, z = own.getD k 0 := ⟨_, rfl⟩
        have cx : w1.cell? ⟨b, off + k, none⟩ = some (.int .i64 x) := by rw [hx]; exact hc k hlt
        have hxb := HOWN.out x (by rw [hx]; simp [List.getD, hlt])
        have HS' : Hid (s + x = isum (own.take (k + 1))) := by show _ = _; rw [isum_take_succ own k hlt, HS.out, hx]
        clear hx hc
        go_wp2
        go_round
        case rel => exact ⟨k + 1, s + x, by omega, by go_num, by go_num, by omega, by omega, HS'⟩
        case measure => simp [intOf]; omega
      · go_wp2
        go_ret
        refine ⟨s, rfl, ?_, HB.out⟩
        rw [HEQ.out, HR.out, HS.out, List.take_of_length_le (by omega)]
  · have HR : Hid (costI own m = isum ((lvI own m).take (2 * own.length - 2))) := by show _ = _; unfold costI; rw [if_neg h2]
    have hen := HEN.out (by omega)
    have HEN' := hid hen
    have HL1 : Hid (own.length = (lvI own 1).length ∧ Seg w1 lo (lvI own 1) ∧ Below w.heap.size w w1) := by rw [lvI_one]; exact ⟨rfl, HSG.out, HB.out⟩
    clear hen
    go_wp2
    go_loopw [8, 9] (fun v i wr => ∃ (k n : Nat) (lo : Option Addr) (lc : Nat), 1 ≤ k ∧ k ≤ m ∧ i = .int .i64 k ∧ v = .slice lo n lc ∧ n ≤ 640 ∧ Hid (n = (lvI own k).length ∧ Seg wr lo (lvI own k) ∧ Below w1.heap.size w1 wr)) (fun _ i _ => m - (intOf i).toNat)
    case atStart => exact ⟨1, own.length, lo, lc, by omega, h1, rfl, rfl, by omega, HL1.out.1, HL1.out.2.1, Below.refl _ _⟩
    case round =>
      obtain ⟨k, n, la, lc2, hk1, hkm, rfl, rfl, hn, HL⟩ := hrel
      obtain ⟨w2, hw2⟩ : ∃ w2, w2 = wr := ⟨_, rfl⟩
      subst hw2
      by_cases hlt : k < m
      · have H0 : Hid (Below w2.heap.size w2 w2) := Below.refl _ _
        go_wp2
        go_loopw [10, 11] (fun v i wr => ∃ t j : Nat, j ≤ n ∧ i = .int .i64 j ∧ Hid (j = 2 * t) ∧ Hid (wr.ownsRow w2.heap.size 3 1 v ((pairsI (lvI own k)).take t).length (((pairsI (lvI own k)).take t).map (Value.int .i64)) ∧ Below w2.heap.size w2 wr)) (fun _ i _ => n - (intOf i).toNat)
        case atStart => exact ⟨0, 0, by omega, rfl, rfl, World.ownsRow_nil _ _ _ _, H0.out⟩
        case round =>
          clear H0
          obtain ⟨t, j, hj, rfl, HJ, HO⟩ := hrel
          obtain ⟨q, hq⟩ : ∃ q, q = (pairsI (lvI own k)).take t := ⟨_, rfl⟩
          rw [← hq] at HO
          have hql : q.length ≤ 640 := by have := HJ.out; rw [hq, List.length_take]; omega
          have HQ := hid hq
          clear hq
          by_cases htn : j + 1 < n
          · obtain ⟨b, off, rfl, hc⟩ := HL.out.2.1 (by rw [← HL.out.1]; omega)
            obtain ⟨x, hx⟩ : ∃ z, z = (lvI own k).getD j 0 := ⟨_, rfl⟩
            obtain ⟨y, hy⟩ : ∃ z, z = (lvI own k).getD (j + 1) 0 := ⟨_, rfl⟩
            have cx0 := hc j (by rw [← HL.out.1]; omega)
            have cy0 := hc (j + 1) (by rw [← HL.out.1]; omega)
            have hbl := World.block_lt_of_cell? w2 _ cx0
            rw [← hx] at cx0
            rw [← hy] at cy0
            have cx : wr.cell? ⟨b, off + j, none⟩ = some (.int .i64 x) := (HO.out.2.cell (p := ⟨b, off + j, none⟩) hbl).trans cx0
            have cy : wr.cell? ⟨b, off + (j + 1), none⟩ = some (.int .i64 y) := (HO.out.2.cell (p := ⟨b, off + (j + 1), none⟩) hbl).trans cy0
            have hxb := lv_bd HOWN.out (show k ≤ 15 by omega) (j := j) (by rw [← HL.out.1]; omega)
            have hyb := lv_bd HOWN.out (show k ≤ 15 by omega) (j := j + 1) (by rw [← HL.out.1]; omega)
            rw [← hx] at hxb
            rw [← hy] at hyb
            have HY : Hid (q ++ [x + y] = (pairsI (lvI own k)).take (t + 1)) := by
              show _ = _
              have hjt := HJ.out
              rw [take_snocI _ t (by rw [pairsI_length, ← HL.out.1]; omega), pairsI_getD _ t (by rw [← HL.out.1]; omega), ← hjt, ← hx, ← hy, HQ.out]
            have b1 : (0 : Int) ≤ (j : Int) := by omega
            have b2 : (j : Int) < (n : Int) := by omega
            have b3 : (0 : Int) ≤ (j : Int) + 1 := by omega
            have b4 : (j : Int) + 1 < (n : Int) := by omega
            have e1 : ((j : Int) + 1).toNat = j + 1 := by omega
            have wr1 : IntKind.i64.wrap ((j : Int) + 1) = (j : Int) + 1 := by rw [IntKind.wrap_i64]; omega
            have wr2 : IntKind.i64.wrap (x + y) = x + y := by rw [IntKind.wrap_i64]; omega
            have hown := HO.out.1
            have hsz := HO.out.2.size
            clear hx hy hc cx0 cy0
            go_wp2
            go_region_law
              ((refine step_append_lies _ (by rfl) _ _ _ (by rfl) w2.heap.size 3 i0 _ 1 8 Try.underlying27 hi hz0 hz1 hz2 rfl (by omega) u10 q.length (q.map (Value.int .i64)) (by rfl) ((hown.drew).alloc _)
                  ⟨wr.heap.size, 0, none⟩ 1 1 [.int .i64 (x + y)] (by rfl) (by rfl) (cell_one_new _ _ _) (by simp [Value.oneCell'])
                  (by omega) (by unfold maxLen; omega) (by omega) (by simp; omega) (wr.heap.size + 1) (by simp) ?_; intro gg cap wz hown1 hgrow hat hlt1))
            all_goals
              have R := app_one (w0 := w2) rfl hown.drew HO.out.2.drew hown1 hgrow
              rw [HY.out] at R
              have RH := hid R
              clear R hown1 hgrow hat hlt1 cx cy hown hsz wr1 wr2
              go_wp2
              go_roundw
              case rel => exact ⟨t + 1, j + 2, by omega, by go_num, by show _ = _; have := HJ.out; omega, RH.out⟩
              case measure => simp [intOf]; omega
          · have HE : Hid (q = pairsI (lvI own k)) := by
              show _ = _
              have := HJ.out
              rw [HQ.out, List.take_of_length_le]
              rw [pairsI_length, ← HL.out.1]
              omega
            obtain ⟨qa, qc, hv, hqs⟩ := owns_seg HO.out.1
            have HQS := hid hqs
            clear hqs
            subst hv
            go_wp2_with fail
            refine (merged_any lo qa lc qc own q wr (HSG.out.below (HL.out.2.2.trans (HO.out.2.mono HL.out.2.2.size))) HQS.out (by omega) (by omega)).mono ?_
            rintro e w4 ⟨ra, rc, rfl, hrs, hrb⟩
            have hrl : (mrg own q).length ≤ 640 := by
              rw [HE.out]
              have := lvI_le own (k + 1)
              rw [lvI] at this
              omega
            have HN : Hid ((mrg own q).length = (lvI own (k + 1)).length ∧ Seg w4 ra (lvI own (k + 1)) ∧ Below w1.heap.size w1 w4) := by
              have e : mrg own q = lvI own (k + 1) := by rw [HE.out]; rfl
              rw [← e]
              exact ⟨rfl, hrs, (HL.out.2.2.trans (HO.out.2.mono HL.out.2.2.size)).trans (hrb.mono (Nat.le_trans HL.out.2.2.size HO.out.2.size))⟩
            obtain ⟨n2, hn2⟩ : ∃ n2, n2 = (mrg own q).length := ⟨_, rfl⟩
            rw [← hn2] at hrl HN ⊢
            clear hrs hrb hn2
            go_wp2
            go_roundw
            case rel => exact ⟨k + 1, n2, ra, rc, by omega, by omega, by go_num, rfl, hrl, HN.out⟩
            case measure => simp [intOf]; omega
      · have ekm : k = m := by omega
        subst ekm
        have hen : 2 * own.length - 2 ≤ n := by rw [HL.out.1]; exact HEN'.out
        go_wp2
        go_loop [12, 13] (fun p i => ∃ (j : Nat) (s : Int), j ≤ 2 * own.length - 2 ∧ i = .int .i64 j ∧ p = .int .i64 s ∧ 0 ≤ s ∧ s ≤ 32768000000000 * j ∧ Hid (s = isum ((lvI own k).take j))) (fun _ i => 2 * own.length - 2 - (intOf i).toNat)
        case atStart => exact ⟨0, 0, by omega, rfl, rfl, by omega, by omega, rfl⟩
        case round =>
          obtain ⟨j, s, hj, rfl, rfl, hs0, hs1, HS⟩ := hrel
          by_cases hlj : j < 2 * own.length - 2
          · obtain ⟨b, off, rfl, hc⟩ := HL.out.2.1 (by rw [← HL.out.1]; omega)
            obtain ⟨x, hx⟩ : ∃ z, z = (lvI own k).getD j 0 := ⟨_, rfl⟩
            have cx : w2.cell? ⟨b, off + j, none⟩ = some (.int .i64 x) := by rw [hx]; exact hc j (by rw [← HL.out.1]; omega)
            have hxb := lv_bd HOWN.out h15 (j := j) (by rw [← HL.out.1]; omega)
            rw [← hx] at hxb
            have HS' : Hid (s + x = isum ((lvI own k).take (j + 1))) := by show _ = _; rw [isum_take_succ _ j (by rw [← HL.out.1]; omega), HS.out, hx]
            clear hx hc
            go_wp2
            go_round
            case rel => exact ⟨j + 1, s + x, by omega, by go_num, by go_num, by omega, by omega, HS'⟩
            case measure => simp [intOf]; omega
          · have ej : j = 2 * own.length - 2 := by omega
            have HS2 : Hid (s = isum ((lvI own k).take (2 * own.length - 2))) := by show _ = _; rw [HS.out, ej]
            clear ej
            go_wp2
            go_ret
            refine ⟨s, rfl, ?_, HB.out.trans (HL.out.2.2.mono HB.out.size)⟩
            rw [HEQ.out, HR.out, HS2.out]
end Go.Proofs.Ythdmjmnkhlpnnaa
