/-
  What baleref.Best answers of the lengths that were chosen: true.
-/
import Derived.Test.YthdmjmnkhlpnnaaMay
import Derived.Test.YthdmjmnkhlpnnaaBlen
import Derived.Deep.DeepCutAuto
namespace Go.Proofs.Ythdmjmnkhlpnnaa
open Go.RowKit

/-- a count and its length, at a place -/
structure Pl (cs : List Int) (m : Nat) (C : List Ab) (k : Nat) (z L : Int) : Prop where
  hz : cs.getD k 0 = z
  hL : (chl cs C).getD k 0 = L
  same : L = 0 ↔ z = 0
  lo : 0 ≤ L
  hi : L ≤ m
  z0 : 0 ≤ z
  z1 : z ≤ 1000000000
theorem pl_of {cs : List Int} {m : Nat} {C : List Ab} (h1 : 1 ≤ m) (hf : (sing cs).length ≤ 2 ^ m) (hok : cs.any nc = false) (hc : Chs (sing cs) m C) {k : Nat} (hk : k < cs.length) : Pl cs m C k (cs.getD k 0) ((chl cs C).getD k 0) := by
  have a := good_of h1 hf hc
  have p1 := chl_getD cs C k hk
  have b := nc_getD hok k
  refine ⟨rfl, rfl, ?_, ?_, ?_, b.1, b.2⟩
  · rw [p1]
    by_cases h0 : 0 < cs.getD k 0
    · have := a.some k hk h0; omega
    · have := a.none k hk (by omega); omega
  · rw [p1]; omega
  · rw [p1]
    by_cases h0 : 0 < cs.getD k 0
    · have := a.some k hk h0; omega
    · have := a.none k hk (by omega); omega
theorem pl_order {cs : List Int} {m : Nat} {C : List Ab} (h1 : 1 ≤ m) (hf : (sing cs).length ≤ 2 ^ m) (hc : Chs (sing cs) m C) {j k : Nat} (hj : j < cs.length) (hk : k < cs.length) {z L z' L' : Int} (a : Pl cs m C j z L) (b : Pl cs m C k z' L') (h0 : 0 < z) (hlt : z < z') : L' ≤ L := by
  have h := (good_of h1 hf hc).order j k hj hk (by rw [a.hz]; exact h0) (by rw [a.hz, b.hz]; exact hlt)
  have e1 := a.hL
  have e2 := b.hL
  rw [chl_getD cs C j hj] at e1
  rw [chl_getD cs C k hk] at e2
  omega
theorem chl_weight {cs : List Int} {m : Nat} {C : List Ab} (h1 : 1 ≤ m) (h15 : m ≤ 15) (hf : (sing cs).length ≤ 2 ^ m) (hc : Chs (sing cs) m C) : (1 < (sing cs).length → wt (chl cs C) = 32768) ∧ ((sing cs).length = 1 → wt (chl cs C) = 16384) := by
  obtain ⟨w2, w1, _⟩ := good_wt h15 (good_of h1 hf hc)
  exact ⟨fun h => w2 (by omega), w1⟩
theorem best_cost {cs : List Int} {m : Nat} {C : List Ab} (hc : Chs (sing cs) m C) : psum (fun i => cs.getD i 0 * (chl cs C).getD i 0) cs.length = isum (C.map Prod.fst) := by
  rw [psum_congr (g := fun i => cs.getD i 0 * ((occ C (i : Int) : Nat) : Int)) (fun i hi => by rw [chl_getD cs C i hi])]
  exact chs_cost hc

set_option maxRecDepth 20000 in
set_option maxHeartbeats 4000000 in
theorem best_any (ao lo : Option Addr) (c lc : Nat) (cs : List Int) (m : Nat) (C : List Ab) (w : World) (hs : Seg w ao cs) (hls : Seg w lo (chl cs C)) (h320 : cs.length ≤ 320) (hok : cs.any nc = false) (h1 : 1 ≤ m) (h15 : m ≤ 15) (hfew : (sing cs).length ≤ 2 ^ m) (hC : Chs (sing cs) m C) :
    Calls Try.prog 23 #[.slice ao cs.length c, .int .i64 m, .slice lo cs.length lc] w fun e w' => e = .returned (.bool true) ∧ Below w.heap.size w w' := by
  have HS := hid hs
  have HLS := hid hls
  have HOK := hid hok
  have HF := hid hfew
  have HC := hid hC
  have HCH := hid (chl_ok h1 h15 hfew hC)
  have HWT := hid (chl_weight h1 h15 hfew hC)
  have H0 : Hid (Below w.heap.size w w) := Below.refl _ _
  clear hs hls hok hfew hC
  go_enter Try.func23, Try.ntmps23
  go_wp2
  go_loopw [7, 8, 9] (fun p q i wr => ∃ (k s : Nat) (y : Int), k ≤ cs.length ∧ s ≤ k ∧ i = .int .i64 k ∧ p = .int .i64 s ∧ q = .int .i64 y ∧ 0 ≤ y ∧ y ≤ 15000000000 * k ∧ Hid (s = (sing (cs.take k)).length) ∧ Hid (y = psum (fun i => cs.getD i 0 * (chl cs C).getD i 0) k) ∧ Hid (Below w.heap.size w wr)) (fun _ _ i _ => cs.length - (intOf i).toNat)
  case atStart => exact ⟨0, 0, 0, by omega, by omega, rfl, rfl, rfl, by omega, by omega, rfl, rfl, H0⟩
  case round =>
    clear H0
    obtain ⟨k, s, y, hk, hsk, rfl, rfl, rfl, hy0, hy1, HSN, HY, HK⟩ := hrel
    by_cases hlt : k < cs.length
    · obtain ⟨z, L, hPl⟩ : ∃ z L, Pl cs m C k z L := ⟨_, _, pl_of h1 HF.out HOK.out HC.out hlt⟩
      have HPL := hid hPl
      have hL0 := hPl.lo
      have hL1 := hPl.hi
      have hz0 := hPl.z0
      have hz1 := hPl.z1
      have hsame := hPl.same
      obtain ⟨cb, co, rfl, hcc⟩ := HS.out (by omega)
      obtain ⟨lb, lf, rfl, hcl⟩ := HLS.out (by rw [chl_length]; omega)
      have c1 : wr.cell? ⟨cb, co + k, none⟩ = some (.int .i64 z) := by
        have h := hcc k hlt
        rw [hPl.hz] at h
        exact (HK.out.cell (p := ⟨cb, co + k, none⟩) (World.block_lt_of_cell? w _ h)).trans h
      have c2 : wr.cell? ⟨lb, lf + k, none⟩ = some (.int .i64 L) := by
        have h := hcl k (by rw [chl_length]; exact hlt)
        rw [hPl.hL] at h
        exact (HK.out.cell (p := ⟨lb, lf + k, none⟩) (World.block_lt_of_cell? w _ h)).trans h
      clear hPl hcc hcl
      have d3 : decide (L < 0) = false := by simp; omega
      have d4 : decide ((m : Int) < L) = false := by simp; omega
      have hzL : 0 ≤ z * L ∧ z * L ≤ 15000000000 := ⟨Int.mul_nonneg (by omega) (by omega), by
        have a1 := Int.mul_le_mul_of_nonneg_left (show L ≤ 15 by omega) hz0
        omega⟩
      have HSZ : Hid ((sing (cs.take (k + 1))).length = s + if 0 < z then 1 else 0) := by
        show _ = _
        rw [sing_take_succ cs k hlt, HPL.out.hz, List.length_append, ← HSN.out]
        split <;> rfl
      have HY' : Hid (y + z * L = psum (fun i => cs.getD i 0 * (chl cs C).getD i 0) (k + 1)) := by
        show _ = _
        rw [HY.out, ← HPL.out.hz, ← HPL.out.hL]
        rfl
      clear HY HSN
      go_upto_region 8 with fail
      go_cut [48] (fun s wx => s = .bool false ∧ Hid (∃ q, wx = wr.drewN q))
      case first =>
        by_cases hzz : z = 0
        · have hLL : L = 0 := by omega
          have d1 : (L == 0) = true := by simp; omega
          have d2 : (z == 0) = true := by simp; omega
          clear hsame
          go_quiet (fail)
          go_wp2
          go_meet
          exact ⟨rfl, _, rfl⟩
        · have hLL : ¬ L = 0 := by omega
          have d1 : (L == 0) = false := by simp; omega
          have d2 : (z == 0) = false := by simp; omega
          clear hsame
          go_quiet (fail)
          go_wp2
          go_meet
          exact ⟨rfl, _, rfl⟩
      case rest =>
      obtain ⟨rfl, HQ⟩ := hcut
      obtain ⟨q, rfl⟩ := HQ.out
      clear d3 d4 HQ hsame
      go_upto_if 53 with fail
      go_cut [7] (fun s7 wx => s7 = .int .i64 ((s + if 0 < z then 1 else 0 : Nat) : Int) ∧ wx = wr.drewN q)
      case first =>
        by_cases hzz : 0 < z
        · go_wp2
          go_meet
          exact ⟨by simp [hzz], rfl⟩
        · go_wp2
          go_meet
          exact ⟨by rw [if_neg (show ¬ 0 < z by omega)]; rfl, rfl⟩
      case rest =>
      obtain ⟨rfl, rfl⟩ := hcut
      obtain ⟨s2, hs2⟩ : ∃ s2 : Nat, s2 = s + if 0 < z then 1 else 0 := ⟨_, rfl⟩
      have hs2k : s2 ≤ k + 1 := by rw [hs2]; split <;> omega
      rw [← hs2] at HSZ ⊢
      clear hs2
      go_wp2
      go_quiet (fail)
      clear c1 c2
      go_wp2
      go_loopw [10] (fun j wj => ∃ t : Nat, t ≤ k ∧ j = .int .i64 t ∧ Hid (Below w.heap.size w wj)) (fun j _ => k - (intOf j).toNat)
      case atStart => exact ⟨0, by omega, rfl, below_drewN' (below_drewN' HK.out _) _⟩
      case round =>
        clear HK
        obtain ⟨t, ht, rfl, HK⟩ := hrel
        by_cases htk : t < k
        · obtain ⟨z', L', hPl⟩ : ∃ z L, Pl cs m C t z L := ⟨_, _, pl_of h1 HF.out HOK.out HC.out (by omega)⟩
          have hz0' := hPl.z0
          have c1 : wr.cell? ⟨cb, co + k, none⟩ = some (.int .i64 z) := by
            obtain ⟨_, _, e, hcc⟩ := HS.out (by omega)
            injection e with e
            injection e with e1 e2
            subst e1 e2
            have h := hcc k hlt
            rw [HPL.out.hz] at h
            exact (HK.out.cell (p := ⟨cb, co + k, none⟩) (World.block_lt_of_cell? w _ h)).trans h
          have c2 : wr.cell? ⟨lb, lf + k, none⟩ = some (.int .i64 L) := by
            obtain ⟨_, _, e, hcc⟩ := HLS.out (by rw [chl_length]; omega)
            injection e with e
            injection e with e1 e2
            subst e1 e2
            have h := hcc k (by rw [chl_length]; exact hlt)
            rw [HPL.out.hL] at h
            exact (HK.out.cell (p := ⟨lb, lf + k, none⟩) (World.block_lt_of_cell? w _ h)).trans h
          have c3 : wr.cell? ⟨cb, co + t, none⟩ = some (.int .i64 z') := by
            obtain ⟨_, _, e, hcc⟩ := HS.out (by omega)
            injection e with e
            injection e with e1 e2
            subst e1 e2
            have h := hcc t (by omega)
            rw [hPl.hz] at h
            exact (HK.out.cell (p := ⟨cb, co + t, none⟩) (World.block_lt_of_cell? w _ h)).trans h
          have c4 : wr.cell? ⟨lb, lf + t, none⟩ = some (.int .i64 L') := by
            obtain ⟨_, _, e, hcc⟩ := HLS.out (by rw [chl_length]; omega)
            injection e with e
            injection e with e1 e2
            subst e1 e2
            have h := hcc t (by rw [chl_length]; omega)
            rw [hPl.hL] at h
            exact (HK.out.cell (p := ⟨lb, lf + t, none⟩) (World.block_lt_of_cell? w _ h)).trans h
          have HO1 : Hid (0 < z' → z' < z → L ≤ L') := fun a b => pl_order h1 HF.out HC.out (by omega) hlt hPl HPL.out a b
          have HO2 : Hid (0 < z → z < z' → L' ≤ L) := fun a b => pl_order h1 HF.out HC.out hlt (by omega) HPL.out hPl a b
          have htc : (t : Int) < (cs.length : Int) := by omega
          clear hPl
          go_upto_region 16 with fail
          go_cut [127] (fun s wx => s = .bool false ∧ Hid (∃ q, wx = wr.drewN q))
          case first =>
            by_cases g1 : z' < z
            · have d1 : decide (z' < z) = true := by simp; omega
              have d4 : decide (z < z') = false := by simp; omega
              by_cases g2 : 0 < z'
              · have d2 : decide (0 < z') = true := by simp; omega
                have d3 : decide (L' < L) = false := by have := HO1.out g2 g1; simp; omega
                go_quiet (fail)
                go_wp2
                go_meet
                exact ⟨rfl, _, rfl⟩
              · have d2 : decide (0 < z') = false := by simp; omega
                go_quiet (fail)
                go_wp2
                go_meet
                exact ⟨rfl, _, rfl⟩
            · have d1 : decide (z' < z) = false := by simp; omega
              by_cases g3 : z < z'
              · have d4 : decide (z < z') = true := by simp; omega
                by_cases g4 : 0 < z
                · have d5 : decide (0 < z) = true := by simp; omega
                  have d6 : decide (L < L') = false := by have := HO2.out g4 g3; simp; omega
                  go_quiet (fail)
                  go_wp2
                  go_meet
                  exact ⟨rfl, _, rfl⟩
                · have d5 : decide (0 < z) = false := by simp; omega
                  go_quiet (fail)
                  go_wp2
                  go_meet
                  exact ⟨rfl, _, rfl⟩
              · have d4 : decide (z < z') = false := by simp; omega
                go_quiet (fail)
                go_wp2
                go_meet
                exact ⟨rfl, _, rfl⟩
          case rest =>
          obtain ⟨rfl, HQ⟩ := hcut
          obtain ⟨q, rfl⟩ := HQ.out
          clear c1 c2 c3 c4 HQ
          go_wp2
          go_roundw
          case rel => exact ⟨t + 1, by omega, by go_num, below_drewN' HK.out _⟩
          case measure => simp [intOf]; omega
        · have HSZ' : Hid (s2 = (sing (cs.take (k + 1))).length) := HSZ.out.symm
          go_wp2
          go_roundw
          case rel => exact ⟨k + 1, s2, y + z * L, by omega, hs2k, by go_num, rfl, by go_num, by omega, by omega, HSZ', HY', HK⟩
          case measure => simp [intOf]; omega
    · have HSN' : Hid (s = (sing cs).length) := by have h := HSN.out; rw [List.take_of_length_le (by omega)] at h; exact h
      have HYE : Hid (y = isum (C.map Prod.fst)) := by
        show _ = _
        rw [HY.out, show k = cs.length by omega]
        exact best_cost HC.out
      obtain ⟨W, hW⟩ : ∃ W : Nat, W = wt (chl cs C) := ⟨_, rfl⟩
      have hWs : (1 < s → W = 32768) ∧ (s = 1 → W = 16384) := by rw [hW, HSN'.out]; exact HWT.out
      have WC : Hid (Calls Try.prog 27 #[.slice lo cs.length lc] wr fun e w' => e = .returned (.int .i64 W) ∧ wr = w') := by
        have h := refweight_any lo lc (chl cs C) wr (HLS.out.below HK.out) (by rw [chl_length]; exact h320) HCH.out.1
        rw [chl_length, ← hW] at h
        exact h
      clear hW
      go_wp2_with fail
      refine WC.out.mono ?_
      rintro e w' ⟨rfl, rfl⟩
      clear WC
      by_cases s1 : 1 < s
      · have hWe : W = 32768 := hWs.1 s1
        subst hWe
        clear hWs
        go_wp2_with (first | (go_at_call 28; refine (power_any _ _ (by omega) (by omega)).mono ?_; rintro e w' ⟨rfl, rfl⟩) | (go_at_call 29; refine (cost_any _ _ _ _ _ (HS.out.below HK.out) h320 HOK.out h1 h15 HF.out HC.out).mono ?_; rintro e w5 ⟨r, rfl, hr, hb5⟩; rw [← HYE.out] at hr; have HB5 := hid hb5; clear hb5; subst hr))
        go_ret
        exact ⟨rfl, HK.out.trans (HB5.out.mono HK.out.size)⟩
      · by_cases s0 : s = 1
        · have hWe : W = 16384 := hWs.2 s0
          subst hWe
          clear hWs
          subst s0
          go_wp2_with (first | (go_at_call 28; refine (power_any _ _ (by omega) (by omega)).mono ?_; rintro e w' ⟨rfl, rfl⟩) | (go_at_call 29; refine (cost_any _ _ _ _ _ (HS.out.below HK.out) h320 HOK.out h1 h15 HF.out HC.out).mono ?_; rintro e w5 ⟨r, rfl, hr, hb5⟩; rw [← HYE.out] at hr; have HB5 := hid hb5; clear hb5; subst hr))
          go_ret
          exact ⟨rfl, HK.out.trans (HB5.out.mono HK.out.size)⟩
        · clear hWs
          have s00 : s = 0 := by omega
          subst s00
          go_wp2_with (first | (go_at_call 28; refine (power_any _ _ (by omega) (by omega)).mono ?_; rintro e w' ⟨rfl, rfl⟩) | (go_at_call 29; refine (cost_any _ _ _ _ _ (HS.out.below HK.out) h320 HOK.out h1 h15 HF.out HC.out).mono ?_; rintro e w5 ⟨r, rfl, hr, hb5⟩; rw [← HYE.out] at hr; have HB5 := hid hb5; clear hb5; subst hr))
          go_ret
          exact ⟨rfl, HK.out.trans (HB5.out.mono HK.out.size)⟩
end Go.Proofs.Ythdmjmnkhlpnnaa
