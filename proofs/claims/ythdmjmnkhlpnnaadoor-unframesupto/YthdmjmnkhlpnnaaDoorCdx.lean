/-
  What baleref.coder answers: the walk.
-/
import Derived.Test.YthdmjmnkhlpnnaaDoorCdw
namespace Go.Proofs.YthdmjmnkhlpnnaaDoor
open Go.RowKit

theorem cell_one_at (w : World) (x : Value) (t : TypeId) (b : Nat) (hb : b = w.heap.size) : ∀ j u, [x][j]? = some u → (w.alloc (.cells #[x] t)).cell? (Addr.add ⟨b, 0, none⟩ j) = some u := by
  subst hb
  exact cell_one_new w x t
theorem cd4_one (f m a : Nat → Int) (o : Option Addr) (l c : Nat) : (cd4 f m a (.slice o l c)).all (·.oneCell') = true := by
  unfold cd4
  rw [Array.all_append, Array.all_append, Array.all_append, arr_one, arr_one, arr_one]
  simp [Value.oneCell']

theorem own_setRow {w : World} {base n g : Nat} {v : Value} {xs : List Value} {cs cs' : Array Value} {T : TypeId} (h : w.ownsRow base 3 1 v n xs) (_ : w.heap[g]? = some (.cells cs T (0, 0))) (hg : g < base) : (w.setRow g cs').ownsRow base 3 1 v n xs := by
  obtain ⟨h1, h2⟩ := h
  refine ⟨h1, ?_⟩
  rcases h2 with h2 | ⟨gg, cap, cur, hv, hgg, hh, r⟩
  · exact Or.inl h2
  · exact Or.inr ⟨gg, cap, cur, hv, hgg, (setRow_other _ _ _ _ (by omega)).trans hh, r⟩

set_option maxRecDepth 20000 in
set_option maxHeartbeats 12800000 in
theorem coder_any (ao : Option Addr) (c : Nat) (zs : List Int) (w : World) (hs : Seg w ao zs) (hm : zs.length ≤ 320) (hok : zs.any nl = false) (hw : wt zs ≤ 32768) :
    Calls Tryd.prog 37 #[.slice ao zs.length c] w fun e w' => ∃ sv, e = .returned (.agg (cd4 (cF zs) (fun j => cnt zs j) (cA zs) sv)) ∧ w'.ownsRow w.heap.size 3 1 sv (plc zs 15) (ivs (st zs 15)) ∧ Below w.heap.size w w' := by
  obtain ⟨i0, hi, hz0, hz1, hz2⟩ := info_parts info3
  have H0 := start_cd w _ cd4_zero
  have HRC := hid (refcodes_own ao c zs _ (hs.below H0.2.2) hm hok hw)
  have HH0 := hid H0
  have HS := hid hs
  have HOK := hid hok
  have HZ := hid (And.intro hi (And.intro hz0 (And.intro hz1 hz2)))
  clear hs hok hw hi hz0 hz1 hz2 H0
  go_enter Tryd.func37, Tryd.ntmps37
  go_wp2_with (go_at_call 55; refine HRC.out.mono ?_; rintro e w1 ⟨bo, bc, rfl, hown1, hb1⟩; rw [bts_length])
  have hsz : w.heap.size + 1 < w1.heap.size := by have := hb1.size; simp at this; omega
  have hbw : Below w.heap.size w w1 := HH0.out.2.2.trans (hb1.mono (by simp; omega))
  have HBW := hid hbw
  have HO1 := hid hown1
  have HST : Hid (Cso zs w w1 w1 1 (.slice none 0 0)) := by
    refine ⟨HH0.out.1.below hb1 (by simp; omega), (HH0.out.2.1.below hb1 (by simp)).congr (fun j _ => ?_) (fun j _ => ?_) (fun j _ => ?_), ⟨rfl, Or.inl ⟨rfl, rfl⟩⟩, Kp.refl _ _ _⟩
    · by_cases e : j < 1
      · obtain rfl : j = 0 := by omega
        rw [if_pos e]; rfl
      · rw [if_neg e]
    · by_cases e : j < 1
      · obtain rfl : j = 0 := by omega
        rw [if_pos e]; rfl
      · rw [if_neg e]
    · by_cases e : j < 1
      · obtain rfl : j = 0 := by omega
        rw [if_pos e]; rfl
      · rw [if_neg e]
  clear hb1 hbw hown1 HH0 HRC
  go_loopw [6] (fun iv wr => ∃ (n : Nat) (sv : Value), 1 ≤ n ∧ n ≤ 16 ∧ iv = .int .i64 n ∧ Hid (Cso zs w w1 wr n sv)) (fun iv _ => 16 - (intOf iv).toNat)
  case atStart => exact ⟨1, _, by omega, by omega, rfl, HST⟩
  case round =>
    clear HST
    obtain ⟨n, sv, hn1, hn16, rfl, hC⟩ := hrel
    obtain ⟨so, sc, rfl⟩ := own_shape hC.out.own
    by_cases hn : n ≤ 15
    · obtain ⟨-, -, ca, cs, fc⟩ := hC.out.cod.cell
      have ca' := ca n (by omega)
      have fa := fc (32 + n)
      have hpl := plc_le zs (n - 1)
      clear ca fc
      have b15 : decide ((n : Int) ≤ 15) = true := by simp; omega
      go_wp2
      go_loopw [7] (fun iv wi => ∃ (i : Nat) (sv : Value), i ≤ zs.length ∧ iv = .int .i64 i ∧ Hid (Cst zs w w1 wi n i sv)) (fun iv _ => zs.length - (intOf iv).toNat)
      case atStart => exact ⟨0, _, by omega, rfl, hC.out.start (by omega) hn hsz⟩
      case round =>
        clear cs ca' fa hC
        obtain ⟨i, sv2, hi, rfl, hT⟩ := hrel
        by_cases hlt : i < zs.length
        · obtain ⟨b, off, rfl, hc⟩ := HS.out (by omega)
          obtain ⟨z, hz⟩ : ∃ z, z = zs.getD i 0 := ⟨_, rfl⟩
          have hcw : w.cell? ⟨b, off + i, none⟩ = some (.int .i64 z) := by rw [hz]; exact hc i hlt
          have hbl : b < w.heap.size := World.block_lt_of_cell? w _ hcw
          have hcell : wr.cell? ⟨b, off + i, none⟩ = some (.int .i64 z) := (hT.out.kp.below.cell (p := ⟨b, off + i, none⟩) hbl).trans ((HBW.out.cell (p := ⟨b, off + i, none⟩) hbl).trans hcw)
          have HZZ := hid hz
          clear hz hc hcw
          by_cases hzn : z = (n : Int)
          · have HHit : Hid (zs.getD i 0 = (n : Int)) := by show _ = _; rw [← HZZ.out]; exact hzn
            have beq : (z == (n : Int)) = true := beq_iff_eq.2 hzn
            obtain ⟨N2, hN2⟩ : ∃ N2, N2 = plc zs (n - 1) + cnt (zs.take i) n := ⟨_, rfl⟩
            obtain ⟨so2, sc2, rfl⟩ := own_shape hT.out.own
            have hN3 : N2 ≤ 700 := by have := cnt_le (zs.take i) n; simp at this; omega
            obtain ⟨cf, cm, -, cs, fc⟩ := hT.out.cod.cell
            have cm' := cm n (by omega)
            rw [if_neg (by omega), if_pos rfl] at cm'
            have cf' := cf n (by omega)
            have ff := fc n
            have fm := fc (16 + n)
            have fs := fc 48
            obtain ⟨x, hx⟩ : ∃ x, x = cnt (zs.take i) n := ⟨_, rfl⟩
            rw [← hx] at cm'
            have hxl : x ≤ 320 := by rw [hx]; have := cnt_le (zs.take i) n; simp at this; omega
            rw [← hN2] at cs
            have HN2 := hid hN2
            have HX := hid hx
            clear cf cm fc hN2 hx hzn
            by_cases hx0 : x = 0
            · have bx : ((x : Int) == 0) = true := beq_iff_eq.2 (by omega)
              obtain ⟨bo', bc', he, hsegb⟩ := owns_seg (own_kp46 HO1.out hT.out.kp)
              injection he with e1 e2 e3
              subst e1 e3
              clear e2
              obtain ⟨bb, boff, rfl, hbc⟩ := hsegb (by rw [bts_length]; omega)
              have cb := hbc i (by rw [bts_length]; exact hlt)
              rw [bts_getD zs i hlt, bt_first zs i n (by omega) HHit.out (by rw [← HX.out]; exact hx0)] at cb
              have HA : Hid (Csa zs w w1 ((wr.setCell ⟨w.heap.size + 1, n, none⟩ (.int .i64 (fst zs n : Int))).setCell ⟨w.heap.size + 1, 16 + n, none⟩ (.int .i64 1)) n i (.slice so2 N2 sc2)) := by
                have := hT.out.first (by omega) hn hsz hlt HHit.out (by rw [← HX.out]; exact hx0)
                rw [HN2.out]; exact this
              clear hbc
              obtain ⟨L2, hL2⟩ : ∃ L2, L2 = ivs (st zs (n - 1) ++ sa zs n i) := ⟨_, rfl⟩
              have HOW : Hid (World.ownsRow ((wr.setCell ⟨w.heap.size + 1, n, none⟩ (.int .i64 (fst zs n : Int))).setCell ⟨w.heap.size + 1, 16 + n, none⟩ (.int .i64 1)) w1.heap.size 3 1 (.slice so2 N2 sc2) N2 L2) := by
                have := HA.out.own; rw [← HN2.out, ← hL2] at this; exact this
              have HL2 := hid hL2
              have hszr := hT.out.kp.size
              clear hL2
              subst hx0
              go_wp2_with (at_builtin; refine wpList_append_lies _ rfl (.tmp 55) (.tmp 57) 45 rfl w1.heap.size 3 i0 (.int .i64 0) 1 8 Tryd.underlying45 HZ.out.1 HZ.out.2.1 HZ.out.2.2.1 HZ.out.2.2.2 rfl (by decide) (.slice so2 N2 sc2) N2 L2 rfl (HOW.out.alloc _) ⟨_, 0, none⟩ 1 1 [.int .i64 (i : Int)] rfl rfl (cell_one_at _ _ _ _ (by simp [World.setCell])) ?c2 (by decide) ?c3 ?c4 ?c5 _ rfl ?_)
              case c2 => first | rfl | (intro u hu; simp at hu; subst hu; rfl)
              case c3 => first | omega | (unfold maxLen; omega)
              case c4 => omega
              case c5 => first | omega | (simp [World.setCell]; omega)
              intro g cap w5 hown hgrow hat hlt5
              have HNX : Hid (Cst zs w w1 (w5.setCell ⟨w.heap.size + 1, 48, none⟩ (.slice (some ⟨g, 0, none⟩) (N2 + 1) cap)) n (i + 1) (.slice (some ⟨g, 0, none⟩) (N2 + 1) cap)) := by
                refine HA.out.lay (by omega) hsz hlt HHit.out hgrow ?_
                rw [← HN2.out, ← HL2.out]; exact hown
              have hr5 : ∀ k, k < w1.heap.size → some k ≠ (Value.slice so2 N2 sc2).ownBlock := fun k hk he => by
                have := (HOW.out.lt k he.symm).1
                omega
              have c5 := ((HA.out.cod.alloc _).grown hgrow (hr5 _ hsz)).cell
              have s5 := c5.2.2.2.1
              have f5 := c5.2.2.2.2 48
              clear hgrow hat hlt5 c5 hown hr5
              go_wp2
              exact ⟨⟨i + 1, _, by omega, by go_num, HNX⟩, by simp [intOf]; omega⟩
            · have bx : ((x : Int) == 0) = false := beq_eq_false_iff_ne.2 (by omega)
              have HA : Hid (Csa zs w w1 (wr.setCell ⟨w.heap.size + 1, 16 + n, none⟩ (.int .i64 ((x : Int) + 1))) n i (.slice so2 N2 sc2)) := by
                have := hT.out.many (by omega) hn hsz hlt HHit.out (by rw [← HX.out]; omega)
                rw [← HN2.out, ← HX.out] at this
                exact this
              obtain ⟨L2, hL2⟩ : ∃ L2, L2 = ivs (st zs (n - 1) ++ sa zs n i) := ⟨_, rfl⟩
              have HOW : Hid (World.ownsRow (wr.setCell ⟨w.heap.size + 1, 16 + n, none⟩ (.int .i64 ((x : Int) + 1))) w1.heap.size 3 1 (.slice so2 N2 sc2) N2 L2) := by
                have := HA.out.own; rw [← HN2.out, ← hL2] at this; exact this
              have HL2 := hid hL2
              have hszr := hT.out.kp.size
              clear hL2
              go_wp2_with (at_builtin; refine wpList_append_lies _ rfl (.tmp 55) (.tmp 57) 45 rfl w1.heap.size 3 i0 (.int .i64 0) 1 8 Tryd.underlying45 HZ.out.1 HZ.out.2.1 HZ.out.2.2.1 HZ.out.2.2.2 rfl (by decide) (.slice so2 N2 sc2) N2 L2 rfl (HOW.out.alloc _) ⟨_, 0, none⟩ 1 1 [.int .i64 (i : Int)] rfl rfl (cell_one_at _ _ _ _ (by simp [World.setCell])) ?c2 (by decide) ?c3 ?c4 ?c5 _ rfl ?_)
              case c2 => first | rfl | (intro u hu; simp at hu; subst hu; rfl)
              case c3 => first | omega | (unfold maxLen; omega)
              case c4 => omega
              case c5 => first | omega | (simp [World.setCell]; omega)
              intro g cap w5 hown hgrow hat hlt5
              have HNX : Hid (Cst zs w w1 (w5.setCell ⟨w.heap.size + 1, 48, none⟩ (.slice (some ⟨g, 0, none⟩) (N2 + 1) cap)) n (i + 1) (.slice (some ⟨g, 0, none⟩) (N2 + 1) cap)) := by
                refine HA.out.lay (by omega) hsz hlt HHit.out hgrow ?_
                rw [← HN2.out, ← HL2.out]; exact hown
              have hr5 : ∀ k, k < w1.heap.size → some k ≠ (Value.slice so2 N2 sc2).ownBlock := fun k hk he => by
                have := (HOW.out.lt k he.symm).1
                omega
              have c5 := ((HA.out.cod.alloc _).grown hgrow (hr5 _ hsz)).cell
              have s5 := c5.2.2.2.1
              have f5 := c5.2.2.2.2 48
              clear hgrow hat hlt5 c5 hown hr5
              go_wp2
              exact ⟨⟨i + 1, _, by omega, by go_num, HNX⟩, by simp [intOf]; omega⟩
          · have bne : (z == (n : Int)) = false := beq_eq_false_iff_ne.2 hzn
            have HNX : Hid (Cst zs w w1 wr n (i + 1) sv2) := hT.out.skip hlt (by rw [← HZZ.out]; exact hzn)
            go_wp2
            exact ⟨⟨i + 1, sv2, by omega, by go_num, HNX⟩, by simp [intOf]; omega⟩
        · obtain rfl : i = zs.length := by omega
          have HD := hid (hT.out.done (by omega))
          go_wp2
          exact ⟨⟨n + 1, sv2, by omega, by omega, by go_num, HD⟩, by simp [intOf]; omega⟩
    · obtain rfl : n = 16 := by omega
      have hcod := hC.out.cod.congr (f' := cF zs) (m' := fun j => (cnt zs j : Int)) (a' := cA zs) (fun j hj => by rw [if_pos hj]) (fun j hj => by rw [if_pos hj]) (fun j hj => by rw [if_pos hj])
      have HCo := hid hcod
      have HRe := hid hC.out.res
      have HOW : Hid (wr.ownsRow w1.heap.size 3 1 (.slice so (plc zs 15) sc) (plc zs 15) (ivs (st zs 15))) := hC.out.own
      have HKP := hid hC.out.kp
      clear hcod hC
      go_wp2_with (first | (refine wpList_load_row rfl 47 _ rfl (w.heap.size + 1) rfl 47 (cd4 (cF zs) (fun j => (cnt zs j : Int)) (cA zs) (.slice so (plc zs 15) sc)) (0, 0) _ (by exact HCo.out) Tryd.underlying47 rfl (info46' _ _ _ _) ?_) | (refine wpList_store_row rfl 47 _ _ rfl w.heap.size (cd4 (cF zs) (fun j => (cnt zs j : Int)) (cA zs) (.slice so (plc zs 15) sc)) rfl rfl 47 _ (by exact HRe.out) (info46' _ _ _ _) (by rw [cd4_size, cd4_size]) (cd4_one _ _ _ _ _ _) ?_))
      have hbr : Below w.heap.size w wr := HBW.out.trans (HKP.out.below.mono (Nat.le_refl _))
      have hH := setRow_heap wr w.heap.size _ (cd4 (cF zs) (fun j => (cnt zs j : Int)) (cA zs) (.slice so (plc zs 15) sc)) 47 _ HRe.out
      refine bodyPost_ret (v := .agg (cd4 (cF zs) (fun j => (cnt zs j : Int)) (cA zs) (.slice so (plc zs 15) sc))) (results_cell_row Tryd.results37 _ _ w.heap.size 47 _ (0, 0) _ rfl hH Tryd.underlying47 rfl (info46' _ _ _ _)) rfl ⟨_, rfl, ?_, below_row hbr (Nat.le_refl _) _⟩
      exact own_lower (own_setRow HOW.out HRe.out (by omega)) (by omega)
end Go.Proofs.YthdmjmnkhlpnnaaDoor
