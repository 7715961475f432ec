/-
  What baleref.rising answers: the counts above 0, in rising order.
-/
import Derived.Test.YthdmjmnkhlpnnaaMerged
import Derived.Test.YthdmjmnkhlpnnaaLenx
namespace Go.Proofs.Ythdmjmnkhlpnnaa
open Go.RowKit

/-- a number stands at its place, and some of those behind it -/
def insAt (l : List Int) (t : Nat) (c : Int) (j : Nat) : List Int := l.take t ++ [c] ++ (l.drop t).take (j - t)
theorem insAt_length (l : List Int) (t : Nat) (c : Int) (j : Nat) (ht : t ≤ j) (hj : j ≤ l.length) : (insAt l t c j).length = j + 1 := by
  simp [insAt]; omega
theorem insAt_start (l : List Int) (t : Nat) (c : Int) : insAt l t c t = l.take t ++ [c] := by simp [insAt]
theorem insAt_snoc (l : List Int) (t : Nat) (c : Int) (j : Nat) (ht : t ≤ j) (hj : j < l.length) : insAt l t c j ++ [l.getD j 0] = insAt l t c (j + 1) := by
  unfold insAt
  rw [show j + 1 - t = (j - t) + 1 by omega, take_snocI (l.drop t) (j - t) (by simp; omega)]
  have e : (l.drop t).getD (j - t) 0 = l.getD j 0 := by
    simp [List.getD, List.getElem?_drop, show t + (j - t) = j by omega]
  rw [e]
  simp
theorem insAt_all (l : List Int) (t : Nat) (c : Int) : insAt l t c l.length = l.take t ++ c :: l.drop t := by
  unfold insAt
  rw [List.take_of_length_le (l := l.drop t) (by simp)]
  simp
theorem insAt_perm (l : List Int) (t : Nat) (c : Int) : (insAt l t c l.length).Perm (l ++ [c]) := by
  rw [insAt_all]
  refine (List.perm_middle).trans ?_
  rw [List.take_append_drop]
  exact List.perm_append_comm (l₁ := [c])
theorem insAt_srt {l : List Int} {t : Nat} {c : Int} (h : SrtI l) (ht : t ≤ l.length) (h1 : 0 < t → l.getD (t - 1) 0 ≤ c) (h2 : ∀ j, t ≤ j → j < l.length → c < l.getD j 0) : SrtI (insAt l t c l.length) := by
  rw [insAt_all]
  have hl : SrtI (l.take t ++ l.drop t) := by rw [List.take_append_drop]; exact h
  obtain ⟨k1, k2, k3⟩ := List.pairwise_append.1 hl
  have lo : ∀ x ∈ l.take t, x ≤ c := fun x hx => by
    obtain ⟨i, hi, e⟩ := List.getElem_of_mem hx
    simp at hi
    have h3 : l.getD (t - 1) 0 ≤ c := h1 (by omega)
    have e2 : x = l.getD i 0 := by rw [← e]; simp [List.getD, show i < l.length by omega]
    by_cases e3 : i = t - 1
    · rw [e2, e3]; exact h3
    · have h4 := List.pairwise_iff_getElem.1 h i (t - 1) (by omega) (by omega) (by omega)
      have e4 : l.getD i 0 = l[i]'(by omega) := by simp [List.getD, show i < l.length by omega]
      have e5 : l.getD (t - 1) 0 = l[t - 1]'(by omega) := by simp [List.getD, show t - 1 < l.length by omega]
      rw [e2, e4]
      rw [e5] at h3
      omega
  have up : ∀ x ∈ l.drop t, c ≤ x := fun x hx => by
    obtain ⟨i, hi, e⟩ := List.getElem_of_mem hx
    simp at hi
    have h3 := h2 (t + i) (by omega) (by omega)
    have e2 : l.getD (t + i) 0 = x := by rw [← e]; simp [List.getD, show t + i < l.length by omega]
    omega
  refine List.pairwise_append.2 ⟨k1, List.pairwise_cons.2 ⟨up, k2⟩, fun x hx y hy => ?_⟩
  rcases List.mem_cons.1 hy with rfl | hy
  · exact lo x hx
  · exact k3 x hx y hy

theorem rise_step {cs l : List Int} {k t : Nat} {c : Int} (hk : k < cs.length) (hc : c = cs.getD k 0) (h0 : 0 < c) (hp : l.Perm ((sing (cs.take k)).map Prod.fst)) : (insAt l t c l.length).Perm ((sing (cs.take (k + 1))).map Prod.fst) := by
  rw [sing_take_succ cs k hk, ← hc, if_pos h0, List.map_append]
  exact (insAt_perm l t c).trans (List.Perm.append_right _ hp)
theorem rise_skip {cs l : List Int} {k : Nat} (hk : k < cs.length) (h0 : cs.getD k 0 = 0) (hp : l.Perm ((sing (cs.take k)).map Prod.fst)) : l.Perm ((sing (cs.take (k + 1))).map Prod.fst) := by
  rw [sing_take_succ cs k hk, if_neg (by omega), List.append_nil]
  exact hp

set_option maxRecDepth 20000 in
set_option maxHeartbeats 4000000 in
theorem rising_any (ao : Option Addr) (c : Nat) (cs : List Int) (w : World) (hs : Seg w ao cs) (h320 : cs.length ≤ 320) (hok : cs.any nc = false) :
    Calls Try.prog 37 #[.slice ao cs.length c] w fun e w' => ∃ v, e = .returned v ∧ ∃ l lo lc, v = .slice lo l.length lc ∧ l.length ≤ cs.length ∧ SrtI l ∧ l.Perm ((sing cs).map Prod.fst) ∧ Seg w' lo l ∧ Below w.heap.size w w' := by
  obtain ⟨i0, hi, hz0, hz1, hz2⟩ := info_parts info3
  have HS := hid hs
  have HC := hid hok
  clear hs hok
  go_enter Try.func37, Try.ntmps37
  go_wp2
  go_loopw [3, 4] (fun v i wr => ∃ (k : Nat) (l : List Int) (lo : Option Addr) (lc : Nat), k ≤ cs.length ∧ l.length ≤ k ∧ i = .int .i64 k ∧ v = .slice lo l.length lc ∧ Hid (SrtI l ∧ l.Perm ((sing (cs.take k)).map Prod.fst) ∧ Seg wr lo l ∧ Below w.heap.size w wr)) (fun _ i _ => cs.length - (intOf i).toNat)
  case atStart => exact ⟨0, [], none, 0, by omega, by simp, rfl, rfl, List.Pairwise.nil, by simp [sing, singAt], (fun h => by simp at h), Below.refl _ _⟩
  case round =>
    obtain ⟨k, l, lo, lc, hk, hlk, rfl, rfl, HR⟩ := hrel
    by_cases hlt : k < cs.length
    · obtain ⟨b, off, rfl, hcc⟩ := HS.out (by omega)
      obtain ⟨x, hx⟩ : ∃ z, z = cs.getD k 0 := ⟨_, rfl⟩
      have cx0 : w.cell? ⟨b, off + k, none⟩ = some (.int .i64 x) := by rw [hx]; exact hcc k hlt
      have hbl : b < w.heap.size := World.block_lt_of_cell? w _ cx0
      have cx : wr.cell? ⟨b, off + k, none⟩ = some (.int .i64 x) := (HR.out.2.2.2.cell (p := ⟨b, off + k, none⟩) hbl).trans cx0
      have hxr := nc_getD HC.out k
      rw [← hx] at hxr
      have HX := hid hx
      have HCX := hid cx0
      clear hx cx0 hcc
      by_cases hx0 : x = 0
      · have HN : Hid (l.Perm ((sing (cs.take (k + 1))).map Prod.fst)) := rise_skip hlt (by rw [← HX.out]; exact hx0) HR.out.2.1
        subst hx0
        go_wp2
        go_roundw
        case rel => exact ⟨k + 1, l, lo, lc, by omega, by omega, by go_num, rfl, HR.out.1, HN.out, HR.out.2.2.1, HR.out.2.2.2⟩
        case measure => simp [intOf]; omega
      · have hx1 : 0 < x := by omega
        obtain ⟨w0, hw0⟩ : ∃ w0, w0 = wr := ⟨_, rfl⟩
        subst hw0
        have H0 : Hid (Below w0.heap.size w0 w0) := Below.refl _ _
        go_wp2
        go_loopw [5] (fun a wq => ∃ t : Nat, t ≤ l.length ∧ a = .int .i64 t ∧ Hid ((∀ j, t ≤ j → j < l.length → x < l.getD j 0) ∧ Below w0.heap.size w0 wq)) (fun a _ => (intOf a).toNat)
        case atStart => exact ⟨l.length, by omega, rfl, fun j h1 h2 => by omega, H0.out⟩
        case round =>
          clear H0 cx
          obtain ⟨t, ht, rfl, HT⟩ := hrel
          have cx : wr.cell? ⟨b, off + k, none⟩ = some (.int .i64 x) := (HT.out.2.cell (p := ⟨b, off + k, none⟩) (by have := HR.out.2.2.2.size; show b < _; omega)).trans ((HR.out.2.2.2.cell (p := ⟨b, off + k, none⟩) hbl).trans HCX.out)
          by_cases ht0 : 0 < t
          · obtain ⟨g, o, rfl, hlc⟩ := HR.out.2.2.1 (by omega)
            obtain ⟨y, hy⟩ : ∃ y, y = l.getD (t - 1) 0 := ⟨_, rfl⟩
            have cy : wr.cell? ⟨g, o + (t - 1), none⟩ = some (.int .i64 y) := by
              have h := hlc (t - 1) (by omega)
              rw [← hy] at h
              exact (HT.out.2.cell (p := ⟨g, o + (t - 1), none⟩) (World.block_lt_of_cell? w0 _ h)).trans h
            have e1 : ((t : Int) - 1).toNat = t - 1 := by omega
            have b1 : (0 : Int) ≤ (t : Int) - 1 := by omega
            have b2 : (t : Int) - 1 < (l.length : Int) := by omega
            have d0 : decide (0 < t) = true := by simp; omega
            have d0' : decide ((0 : Int) < (t : Int)) = true := by simp; omega
            have HYE := hid hy
            clear hy hlc
            by_cases hxy : x < y
            · have d1 : decide (x < y) = true := by simp; omega
              have HT' : Hid (∀ j, t - 1 ≤ j → j < l.length → x < l.getD j 0) := fun j h1 h2 => by
                by_cases e : j = t - 1
                · rw [e, ← HYE.out]; exact hxy
                · exact HT.out.1 j (by omega) h2
              go_wp2
              go_quiet (fail)
              go_wp2
              go_roundw
              case rel => exact ⟨t - 1, by omega, by go_num, HT'.out, below_drewN' HT.out.2 _⟩
              case measure => simp [intOf]; omega
            · have d1 : decide (x < y) = false := by simp; omega
              have HT1 : Hid (0 < t → l.getD (t - 1) 0 ≤ x) := fun _ => by rw [← HYE.out]; omega
              go_wp2
              go_quiet (fail)
              clear d0 d0' d1 cx cy e1 b1 b2
              go_wp2
              have HW : Hid (Below w0.heap.size w0 (wr.drewN nq)) := below_drewN' HT.out.2 _
              obtain ⟨wq, hwq⟩ : ∃ wq, wq = (wr.drewN nq) := ⟨_, rfl⟩
              have LC : Hid (∀ j, j < l.length → g < w0.heap.size ∧ w0.cell? ⟨g, o + j, none⟩ = some (.int .i64 (l.getD j 0))) := fun j hj => by
                obtain ⟨_, _, e, hc⟩ := HR.out.2.2.1 (by omega)
                injection e with e
                injection e with e1 e2
                subst e1 e2
                exact ⟨World.block_lt_of_cell? w0 _ (hc j hj), hc j hj⟩
              rw [← hwq] at HW
              try rw [← hwq]
              clear hwq
              have HZ : Hid (Below wq.heap.size wq wq) := Below.refl _ _
              go_loopw [6, 7] (fun v a wz => ∃ j : Nat, j ≤ t ∧ a = .int .i64 j ∧ Hid (wz.ownsRow wq.heap.size 3 1 v (l.take j).length ((l.take j).map (Value.int .i64)) ∧ Below wq.heap.size wq wz)) (fun _ a _ => t - (intOf a).toNat)
              case atStart => exact ⟨0, by omega, rfl, World.ownsRow_nil _ _ _ _, HZ.out⟩
              case round =>
                clear HZ
                obtain ⟨j, hj, rfl, HO⟩ := hrel
                obtain ⟨q, hq⟩ : ∃ q, q = l.take j := ⟨_, rfl⟩
                have hql : q.length ≤ 320 := by rw [hq, List.length_take]; omega
                rw [← hq] at HO
                have HQ := hid hq
                clear hq
                by_cases hjt : j < t
                · obtain ⟨hg, hc⟩ := LC.out j (by omega)
                  obtain ⟨y, hy⟩ : ∃ y, y = l.getD j 0 := ⟨_, rfl⟩
                  have cy : wr.cell? ⟨g, o + j, none⟩ = some (.int .i64 y) := by
                    rw [hy]
                    exact (HO.out.2.cell (p := ⟨g, o + j, none⟩) (by have := HW.out.size; show g < _; omega)).trans ((HW.out.cell (p := ⟨g, o + j, none⟩) hg).trans hc)
                  have HY : Hid (q ++ [y] = l.take (j + 1)) := by show _ = _; rw [take_snocI l j (by omega), hy, HQ.out]
                  clear hy hc
                  go_wp2_with (at_builtin; refine wpList_append_own _ rfl (.tmp 43) (.tmp 48) 27 rfl wq.heap.size 3 i0 (.int .i64 0) 1 8 Try.underlying27 hi hz0 hz1 hz2 rfl (by decide) _ _ _ rfl (HO.out.1.alloc _) ⟨wr.heap.size, 0, none⟩ 1 1 [.int .i64 y] rfl rfl (cell_one_new _ _ _) ?c2a ?c3a ?c4a ?c5a ?_)
                  case c2a => intro u hu; simp at hu; subst hu; rfl
                  case c3a => unfold maxLen; omega
                  case c4a => omega
                  case c5a => have := HO.out.2.size; simp; omega
                  intro v' w1 hown' hgrow hnn
                  clear hnn
                  have R := app_one (w0 := wq) rfl HO.out.1 HO.out.2 hown' hgrow
                  rw [HY.out] at R
                  have RH := hid R
                  clear R hown' hgrow cy
                  go_wp2
                  go_roundw
                  case rel => exact ⟨j + 1, by omega, by go_num, RH.out⟩
                  case measure => simp [intOf]; omega
                · have ejt : j = t := by omega
                  subst ejt
                  have cx2 : wr.cell? ⟨b, off + k, none⟩ = some (.int .i64 x) := (HO.out.2.cell (p := ⟨b, off + k, none⟩) (by have := HW.out.size; have := HR.out.2.2.2.size; show b < _; omega)).trans ((HW.out.cell (p := ⟨b, off + k, none⟩) (by have := HR.out.2.2.2.size; show b < _; omega)).trans ((HR.out.2.2.2.cell (p := ⟨b, off + k, none⟩) hbl).trans HCX.out))
                  go_wp2_with (at_builtin; refine wpList_append_own _ rfl (.tmp 50) (.tmp 55) 27 rfl wq.heap.size 3 i0 (.int .i64 0) 1 8 Try.underlying27 hi hz0 hz1 hz2 rfl (by decide) _ _ _ rfl (HO.out.1.alloc _) ⟨wr.heap.size, 0, none⟩ 1 1 [.int .i64 x] rfl rfl (cell_one_new _ _ _) ?d2a ?d3a ?d4a ?d5a ?_)
                  case d2a => intro u hu; simp at hu; subst hu; rfl
                  case d3a => unfold maxLen; omega
                  case d4a => omega
                  case d5a => have := HO.out.2.size; simp; omega
                  intro v' w1 hown' hgrow hnn
                  clear hnn
                  have R := app_one (w0 := wq) rfl HO.out.1 HO.out.2 hown' hgrow
                  rw [HQ.out, ← insAt_start l j x] at R
                  have RH := hid R
                  clear R hown' hgrow cx2
                  go_wp2
                  go_loopw [6, 8] (fun v a wz => ∃ i : Nat, j ≤ i ∧ i ≤ l.length ∧ a = .int .i64 i ∧ Hid (wz.ownsRow wq.heap.size 3 1 v (insAt l j x i).length ((insAt l j x i).map (Value.int .i64)) ∧ Below wq.heap.size wq wz)) (fun _ a _ => l.length - (intOf a).toNat)
                  case atStart => exact ⟨j, by omega, by omega, rfl, RH.out⟩
                  case round =>
                    clear RH HO
                    obtain ⟨i, hji, hil, rfl, HO⟩ := hrel
                    have hin := insAt_length l j x i hji hil
                    by_cases hilt : i < l.length
                    · obtain ⟨hg, hc⟩ := LC.out i hilt
                      obtain ⟨y, hy⟩ : ∃ y, y = l.getD i 0 := ⟨_, rfl⟩
                      have cy : wr.cell? ⟨g, o + i, none⟩ = some (.int .i64 y) := by
                        rw [hy]
                        exact (HO.out.2.cell (p := ⟨g, o + i, none⟩) (by have := HW.out.size; show g < _; omega)).trans ((HW.out.cell (p := ⟨g, o + i, none⟩) hg).trans hc)
                      have HY : Hid (insAt l j x i ++ [y] = insAt l j x (i + 1)) := by show _ = _; rw [hy, insAt_snoc l j x i hji hilt]
                      have hjb : (insAt l j x i).length ≤ 400 := by omega
                      clear hy hc hin
                      go_wp2_with (at_builtin; refine wpList_append_own _ rfl (.tmp 64) (.tmp 69) 27 rfl wq.heap.size 3 i0 (.int .i64 0) 1 8 Try.underlying27 hi hz0 hz1 hz2 rfl (by decide) _ _ _ rfl (HO.out.1.alloc _) ⟨wr.heap.size, 0, none⟩ 1 1 [.int .i64 y] rfl rfl (cell_one_new _ _ _) ?e2a ?e3a ?e4a ?e5a ?_)
                      case e2a => intro u hu; simp at hu; subst hu; rfl
                      case e3a => unfold maxLen; omega
                      case e4a => omega
                      case e5a => have := HO.out.2.size; simp; omega
                      intro v' w1 hown' hgrow hnn
                      clear hnn
                      have R := app_one (w0 := wq) rfl HO.out.1 HO.out.2 hown' hgrow
                      rw [HY.out] at R
                      have RH := hid R
                      clear R hown' hgrow cy
                      go_wp2
                      go_roundw
                      case rel => exact ⟨i + 1, by omega, by omega, by go_num, RH.out⟩
                      case measure => simp [intOf]; omega
                    · have ei : i = l.length := by omega
                      subst ei
                      obtain ⟨no, nc', hv, hsg⟩ := owns_seg HO.out.1
                      have hlen : (insAt l j x l.length).length ≤ k + 1 := by omega
                      have HN : Hid (SrtI (insAt l j x l.length) ∧ (insAt l j x l.length).Perm ((sing (cs.take (k + 1))).map Prod.fst) ∧ Seg wr no (insAt l j x l.length) ∧ Below w.heap.size w wr) :=
                        ⟨insAt_srt HR.out.1 (by omega) HT1.out HT.out.1, rise_step hlt HX.out hx1 HR.out.2.1, hsg, HR.out.2.2.2.trans ((HW.out.mono HR.out.2.2.2.size).trans (HO.out.2.mono (by have := HW.out.size; have := HR.out.2.2.2.size; omega)))⟩
                      have HLEN := hid hlen
                      have HV := hid hv
                      clear hin hsg hlen hv
                      go_wp2
                      go_roundw
                      case rel => exact ⟨k + 1, insAt l j x l.length, no, nc', by omega, HLEN.out, by go_num, HV.out, HN.out⟩
                      case measure => simp [intOf]; omega
          · have HT1 : Hid (0 < t → l.getD (t - 1) 0 ≤ x) := fun h => absurd h ht0
            have d0 : decide (0 < t) = false := by simp; omega
            have d0' : decide ((0 : Int) < (t : Int)) = false := by simp; omega
            go_wp2
            go_quiet (fail)
            clear d0 d0' cx
            go_wp2
            have HW : Hid (Below w0.heap.size w0 (wr.drewN nq)) := below_drewN' HT.out.2 _
            obtain ⟨wq, hwq⟩ : ∃ wq, wq = (wr.drewN nq) := ⟨_, rfl⟩
            have LC : Hid (∀ j, j < l.length → ∃ g o, lo = some ⟨g, o, none⟩ ∧ g < w0.heap.size ∧ w0.cell? ⟨g, o + j, none⟩ = some (.int .i64 (l.getD j 0))) := fun j hj => by
              obtain ⟨g, o, e, hc⟩ := HR.out.2.2.1 (by omega)
              exact ⟨g, o, e, World.block_lt_of_cell? w0 _ (hc j hj), hc j hj⟩
            rw [← hwq] at HW
            try rw [← hwq]
            clear hwq
            have HZ : Hid (Below wq.heap.size wq wq) := Below.refl _ _
            go_loopw [6, 7] (fun v a wz => ∃ j : Nat, j ≤ t ∧ a = .int .i64 j ∧ Hid (wz.ownsRow wq.heap.size 3 1 v (l.take j).length ((l.take j).map (Value.int .i64)) ∧ Below wq.heap.size wq wz)) (fun _ a _ => t - (intOf a).toNat)
            case atStart => exact ⟨0, by omega, rfl, World.ownsRow_nil _ _ _ _, HZ.out⟩
            case round =>
              clear HZ
              obtain ⟨j, hj, rfl, HO⟩ := hrel
              obtain ⟨q, hq⟩ : ∃ q, q = l.take j := ⟨_, rfl⟩
              have hql : q.length ≤ 320 := by rw [hq, List.length_take]; omega
              rw [← hq] at HO
              have HQ := hid hq
              clear hq
              by_cases hjt : j < t
              · omega
              · have ejt : j = t := by omega
                subst ejt
                have cx2 : wr.cell? ⟨b, off + k, none⟩ = some (.int .i64 x) := (HO.out.2.cell (p := ⟨b, off + k, none⟩) (by have := HW.out.size; have := HR.out.2.2.2.size; show b < _; omega)).trans ((HW.out.cell (p := ⟨b, off + k, none⟩) (by have := HR.out.2.2.2.size; show b < _; omega)).trans ((HR.out.2.2.2.cell (p := ⟨b, off + k, none⟩) hbl).trans HCX.out))
                go_wp2_with (at_builtin; refine wpList_append_own _ rfl (.tmp 50) (.tmp 55) 27 rfl wq.heap.size 3 i0 (.int .i64 0) 1 8 Try.underlying27 hi hz0 hz1 hz2 rfl (by decide) _ _ _ rfl (HO.out.1.alloc _) ⟨wr.heap.size, 0, none⟩ 1 1 [.int .i64 x] rfl rfl (cell_one_new _ _ _) ?d2a ?d3a ?d4a ?d5a ?_)
                case d2a => intro u hu; simp at hu; subst hu; rfl
                case d3a => unfold maxLen; omega
                case d4a => omega
                case d5a => have := HO.out.2.size; simp; omega
                intro v' w1 hown' hgrow hnn
                clear hnn
                have R := app_one (w0 := wq) rfl HO.out.1 HO.out.2 hown' hgrow
                rw [HQ.out, ← insAt_start l j x] at R
                have RH := hid R
                clear R hown' hgrow cx2
                go_wp2
                go_loopw [6, 8] (fun v a wz => ∃ i : Nat, j ≤ i ∧ i ≤ l.length ∧ a = .int .i64 i ∧ Hid (wz.ownsRow wq.heap.size 3 1 v (insAt l j x i).length ((insAt l j x i).map (Value.int .i64)) ∧ Below wq.heap.size wq wz)) (fun _ a _ => l.length - (intOf a).toNat)
                case atStart => exact ⟨j, by omega, by omega, rfl, RH.out⟩
                case round =>
                  clear RH HO
                  obtain ⟨i, hji, hil, rfl, HO⟩ := hrel
                  have hin := insAt_length l j x i hji hil
                  by_cases hilt : i < l.length
                  · obtain ⟨g, o, rfl, hg, hc⟩ := LC.out i hilt
                    obtain ⟨y, hy⟩ : ∃ y, y = l.getD i 0 := ⟨_, rfl⟩
                    have cy : wr.cell? ⟨g, o + i, none⟩ = some (.int .i64 y) := by
                      rw [hy]
                      exact (HO.out.2.cell (p := ⟨g, o + i, none⟩) (by have := HW.out.size; show g < _; omega)).trans ((HW.out.cell (p := ⟨g, o + i, none⟩) hg).trans hc)
                    have HY : Hid (insAt l j x i ++ [y] = insAt l j x (i + 1)) := by show _ = _; rw [hy, insAt_snoc l j x i hji hilt]
                    have hjb : (insAt l j x i).length ≤ 400 := by omega
                    clear hy hc hin
                    go_wp2_with (at_builtin; refine wpList_append_own _ rfl (.tmp 64) (.tmp 69) 27 rfl wq.heap.size 3 i0 (.int .i64 0) 1 8 Try.underlying27 hi hz0 hz1 hz2 rfl (by decide) _ _ _ rfl (HO.out.1.alloc _) ⟨wr.heap.size, 0, none⟩ 1 1 [.int .i64 y] rfl rfl (cell_one_new _ _ _) ?e2a ?e3a ?e4a ?e5a ?_)
                    case e2a => intro u hu; simp at hu; subst hu; rfl
                    case e3a => unfold maxLen; omega
                    case e4a => omega
                    case e5a => have := HO.out.2.size; simp; omega
                    intro v' w1 hown' hgrow hnn
                    clear hnn
                    have R := app_one (w0 := wq) rfl HO.out.1 HO.out.2 hown' hgrow
                    rw [HY.out] at R
                    have RH := hid R
                    clear R hown' hgrow cy
                    go_wp2
                    go_roundw
                    case rel => exact ⟨i + 1, by omega, by omega, by go_num, RH.out⟩
                    case measure => simp [intOf]; omega
                  · have ei : i = l.length := by omega
                    subst ei
                    obtain ⟨no, nc', hv, hsg⟩ := owns_seg HO.out.1
                    have hlen : (insAt l j x l.length).length ≤ k + 1 := by omega
                    have HN : Hid (SrtI (insAt l j x l.length) ∧ (insAt l j x l.length).Perm ((sing (cs.take (k + 1))).map Prod.fst) ∧ Seg wr no (insAt l j x l.length) ∧ Below w.heap.size w wr) :=
                      ⟨insAt_srt HR.out.1 (by omega) HT1.out HT.out.1, rise_step hlt HX.out hx1 HR.out.2.1, hsg, HR.out.2.2.2.trans ((HW.out.mono HR.out.2.2.2.size).trans (HO.out.2.mono (by have := HW.out.size; have := HR.out.2.2.2.size; omega)))⟩
                    have HLEN := hid hlen
                    have HV := hid hv
                    clear hin hsg hlen hv
                    go_wp2
                    go_roundw
                    case rel => exact ⟨k + 1, insAt l j x l.length, no, nc', by omega, HLEN.out, by go_num, HV.out, HN.out⟩
                    case measure => simp [intOf]; omega
    · have HE : Hid (SrtI l ∧ l.Perm ((sing cs).map Prod.fst) ∧ Seg wr lo l ∧ Below w.heap.size w wr) := by
        have h := HR.out
        rw [List.take_of_length_le (by omega)] at h
        exact h
      go_wp2
      go_ret
      exact ⟨_, rfl, l, lo, lc, rfl, by omega, HE.out⟩
end Go.Proofs.Ythdmjmnkhlpnnaa
