/-
  What baleref.merged answers.
-/
import Derived.Test.YthdmjmnkhlpnnaaRefi
import Derived.Test.YthdmjmnkhlpnnaaRef
import Derived.BigQuiet
namespace Go.Proofs.Ythdmjmnkhlpnnaa
open Go.RowKit

/-- a number is put behind a list of one's own -/
theorem app_one {w0 wr w1 : World} {B : Nat} {v v' : Value} {l : List Int} {r : Int} {o : Obj} (hB : B = w0.heap.size)
    (hown : wr.ownsRow B 3 1 v l.length (l.map (Value.int .i64))) (hb : Below B w0 wr)
    (hown' : w1.ownsRow B 3 1 v' (l.length + 1) (l.map (Value.int .i64) ++ [Value.int .i64 r])) (hg : (wr.alloc o).grownBy w1 v.ownBlock) :
    w1.ownsRow B 3 1 v' (l ++ [r]).length ((l ++ [r]).map (Value.int .i64)) ∧ Below B w0 w1 := by
  subst hB
  refine ⟨?_, (hb.alloc hb.size o).grown hg (by have := hb.size; simp; omega) (fun k hk => (hown.lt k hk).1)⟩
  rw [List.length_append, List.map_append]
  exact hown'
theorem drop_none (l : List Int) (i : Nat) (h : l.length ≤ i) : l.drop i = [] := List.drop_eq_nil_of_le h
theorem drop_cons (l : List Int) (i : Nat) (h : i < l.length) : l.drop i = l.getD i 0 :: l.drop (i + 1) := by
  rw [List.drop_eq_getElem_cons h]; simp [List.getD, h]
theorem mrg_left {a b o : List Int} {i k : Nat} (hi : i < a.length) (h : b.length ≤ k ∨ a.getD i 0 ≤ b.getD k 0) (e : o ++ mrg (a.drop i) (b.drop k) = mrg a b) : (o ++ [a.getD i 0]) ++ mrg (a.drop (i + 1)) (b.drop k) = mrg a b := by
  rw [← e, drop_cons a i hi, List.append_assoc]
  congr 1
  by_cases hk : k < b.length
  · rw [drop_cons b k hk, mrg, if_pos (by rcases h with h | h; omega; exact h)]
    rfl
  · rw [drop_none b k (by omega), mrg_nil, mrg_nil]
    rfl
theorem mrg_right {a b o : List Int} {i k : Nat} (hk : k < b.length) (h : a.length ≤ i ∨ ¬ a.getD i 0 ≤ b.getD k 0) (e : o ++ mrg (a.drop i) (b.drop k) = mrg a b) : (o ++ [b.getD k 0]) ++ mrg (a.drop i) (b.drop (k + 1)) = mrg a b := by
  rw [← e, drop_cons b k hk, List.append_assoc]
  congr 1
  by_cases hi : i < a.length
  · rw [drop_cons a i hi, mrg, if_neg (by rcases h with h | h; omega; exact h)]
    rfl
  · rw [drop_none a i (by omega), mrg, mrg]
    rfl

set_option maxRecDepth 20000 in
set_option maxHeartbeats 2000000 in
theorem merged_any (a1 a2 : Option Addr) (c1 c2 : Nat) (a b : List Int) (w : World) (h1 : Seg w a1 a) (h2 : Seg w a2 b) (la : a.length ≤ 100000) (lb : b.length ≤ 100000) :
    Calls Try.prog 38 #[.slice a1 a.length c1, .slice a2 b.length c2] w fun e w' => ∃ ao c, e = .returned (.slice ao (mrg a b).length c) ∧ Seg w' ao (mrg a b) ∧ Below w.heap.size w w' := by
  obtain ⟨i0, hi, hz0, hz1, hz2⟩ := info_parts info3
  have H1 := hid h1
  have H2 := hid h2
  clear h1 h2
  go_enter Try.func38, Try.ntmps38
  go_wp2
  go_loopw [5, 6, 7] (fun v x y wr => ∃ (i k : Nat) (o : List Int), i ≤ a.length ∧ k ≤ b.length ∧ o.length = i + k ∧ x = .int .i64 i ∧ y = .int .i64 k ∧ Hid (wr.ownsRow w.heap.size 3 1 v o.length (o.map (Value.int .i64)) ∧ Below w.heap.size w wr ∧ o ++ mrg (a.drop i) (b.drop k) = mrg a b)) (fun _ x y _ => (a.length - (intOf x).toNat) + (b.length - (intOf y).toNat))
  case atStart => exact ⟨0, 0, [], by omega, by omega, rfl, rfl, rfl, World.ownsRow_nil _ _ _ _, Below.refl _ _, rfl⟩
  case round =>
    obtain ⟨i, k, o, hia, hkb, hol, rfl, rfl, HO⟩ := hrel
    have HOL := hid hol
    have hob : o.length ≤ 200000 := by omega
    clear hol
    have LEFT : Hid (i < a.length → (b.length ≤ k ∨ a.getD i 0 ≤ b.getD k 0) → (o ++ [a.getD i 0]) ++ mrg (a.drop (i + 1)) (b.drop k) = mrg a b) := fun hi h => mrg_left hi h HO.out.2.2
    have RIGHT : Hid (k < b.length → (a.length ≤ i ∨ ¬ a.getD i 0 ≤ b.getD k 0) → (o ++ [b.getD k 0]) ++ mrg (a.drop i) (b.drop (k + 1)) = mrg a b) := fun hi h => mrg_right hi h HO.out.2.2
    by_cases hil : i < a.length
    · obtain ⟨b1, o1, rfl, hc1⟩ := H1.out (by omega)
      obtain ⟨x, hx⟩ : ∃ z, z = a.getD i 0 := ⟨_, rfl⟩
      have cx0 : w.cell? ⟨b1, o1 + i, none⟩ = some (.int .i64 x) := by rw [hx]; exact hc1 i hil
      have cx : wr.cell? ⟨b1, o1 + i, none⟩ = some (.int .i64 x) := (HO.out.2.1.cell (p := ⟨b1, o1 + i, none⟩) (World.block_lt_of_cell? w _ cx0)).trans cx0
      rw [← hx] at LEFT RIGHT
      clear hx cx0 hc1
      by_cases hkl : k < b.length
      · obtain ⟨b2, o2, rfl, hc2⟩ := H2.out (by omega)
        obtain ⟨y, hy⟩ : ∃ z, z = b.getD k 0 := ⟨_, rfl⟩
        have cy0 : w.cell? ⟨b2, o2 + k, none⟩ = some (.int .i64 y) := by rw [hy]; exact hc2 k hkl
        have cy : wr.cell? ⟨b2, o2 + k, none⟩ = some (.int .i64 y) := (HO.out.2.1.cell (p := ⟨b2, o2 + k, none⟩) (World.block_lt_of_cell? w _ cy0)).trans cy0
        rw [← hy] at LEFT RIGHT
        clear hy cy0 hc2
        have d1 : decide (b.length ≤ k) = false := by simp; omega
        have d2 : decide (i < a.length) = true := by simp; omega
        have d3 : decide ((b.length : Int) ≤ (k : Int)) = false := by simp; omega
        have d4 : decide ((i : Int) < (a.length : Int)) = true := by simp; omega
        by_cases hxy : x ≤ y
        · have d5 : decide (x ≤ y) = true := by simp; omega
          go_wp2
          go_quiet (fail)
          go_wp2_with (at_builtin; refine wpList_append_own _ rfl (.tmp 39) (.tmp 44) 27 rfl w.heap.size 3 i0 (.int .i64 0) 1 8 Try.underlying27 hi hz0 hz1 hz2 rfl (by decide) _ _ _ rfl ((owns_drewN HO.out.1 _).alloc _) ⟨wr.heap.size, 0, none⟩ 1 1 [.int .i64 x] rfl rfl (cell_one_new _ _ _) ?c2a ?c3a ?c4a ?c5a ?_)
          case c2a => intro u hu; simp at hu; subst hu; rfl
          case c3a => unfold maxLen; omega
          case c4a => omega
          case c5a => have := HO.out.2.1.size; simp; omega
          intro v' w1 hown' hgrow hnn
          clear hnn
          have R := hid (app_one (w0 := w) rfl (owns_drewN HO.out.1 _) (below_drewN' HO.out.2.1 _) hown' hgrow)
          clear hown' hgrow
          go_wp2
          go_roundw
          case rel => exact ⟨i + 1, k, o ++ [x], by omega, by omega, by have := HOL.out; simp; omega, by go_num, by go_num, R.out.1, R.out.2, LEFT.out hil (.inr hxy)⟩
          case measure => simp [intOf]; omega
        · have d5 : decide (x ≤ y) = false := by simp; omega
          go_wp2
          go_quiet (fail)
          go_wp2_with (at_builtin; refine wpList_append_own _ rfl (.tmp 48) (.tmp 53) 27 rfl w.heap.size 3 i0 (.int .i64 0) 1 8 Try.underlying27 hi hz0 hz1 hz2 rfl (by decide) _ _ _ rfl ((owns_drewN HO.out.1 _).alloc _) ⟨wr.heap.size, 0, none⟩ 1 1 [.int .i64 y] rfl rfl (cell_one_new _ _ _) ?c2a ?c3a ?c4a ?c5a ?_)
          case c2a => intro u hu; simp at hu; subst hu; rfl
          case c3a => unfold maxLen; omega
          case c4a => omega
          case c5a => have := HO.out.2.1.size; simp; omega
          intro v' w1 hown' hgrow hnn
          clear hnn
          have R := hid (app_one (w0 := w) rfl (owns_drewN HO.out.1 _) (below_drewN' HO.out.2.1 _) hown' hgrow)
          clear hown' hgrow
          go_wp2
          go_roundw
          case rel => exact ⟨i, k + 1, o ++ [y], by omega, by omega, by have := HOL.out; simp; omega, by go_num, by go_num, R.out.1, R.out.2, RIGHT.out hkl (.inr hxy)⟩
          case measure => simp [intOf]; omega
      · have d1 : decide (b.length ≤ k) = true := by simp; omega
        have d3 : decide ((b.length : Int) ≤ (k : Int)) = true := by simp; omega
        go_wp2
        go_quiet (fail)
        go_wp2_with (at_builtin; refine wpList_append_own _ rfl (.tmp 39) (.tmp 44) 27 rfl w.heap.size 3 i0 (.int .i64 0) 1 8 Try.underlying27 hi hz0 hz1 hz2 rfl (by decide) _ _ _ rfl ((owns_drewN HO.out.1 _).alloc _) ⟨wr.heap.size, 0, none⟩ 1 1 [.int .i64 x] rfl rfl (cell_one_new _ _ _) ?c2a ?c3a ?c4a ?c5a ?_)
        case c2a => intro u hu; simp at hu; subst hu; rfl
        case c3a => unfold maxLen; omega
        case c4a => omega
        case c5a => have := HO.out.2.1.size; simp; omega
        intro v' w1 hown' hgrow hnn
        clear hnn
        have R := hid (app_one (w0 := w) rfl (owns_drewN HO.out.1 _) (below_drewN' HO.out.2.1 _) hown' hgrow)
        clear hown' hgrow
        go_wp2
        go_roundw
        case rel => exact ⟨i + 1, k, o ++ [x], by omega, by omega, by have := HOL.out; simp; omega, by go_num, by go_num, R.out.1, R.out.2, LEFT.out hil (.inl (by omega))⟩
        case measure => simp [intOf]; omega
    · by_cases hkl : k < b.length
      · obtain ⟨b2, o2, rfl, hc2⟩ := H2.out (by omega)
        obtain ⟨y, hy⟩ : ∃ z, z = b.getD k 0 := ⟨_, rfl⟩
        have cy0 : w.cell? ⟨b2, o2 + k, none⟩ = some (.int .i64 y) := by rw [hy]; exact hc2 k hkl
        have cy : wr.cell? ⟨b2, o2 + k, none⟩ = some (.int .i64 y) := (HO.out.2.1.cell (p := ⟨b2, o2 + k, none⟩) (World.block_lt_of_cell? w _ cy0)).trans cy0
        rw [← hy] at LEFT RIGHT
        clear hy cy0 hc2
        have d1 : decide (b.length ≤ k) = false := by simp; omega
        have d2 : decide (i < a.length) = false := by simp; omega
        have d3 : decide ((b.length : Int) ≤ (k : Int)) = false := by simp; omega
        have d4 : decide ((i : Int) < (a.length : Int)) = false := by simp; omega
        go_wp2
        go_quiet (fail)
        go_wp2_with (at_builtin; refine wpList_append_own _ rfl (.tmp 48) (.tmp 53) 27 rfl w.heap.size 3 i0 (.int .i64 0) 1 8 Try.underlying27 hi hz0 hz1 hz2 rfl (by decide) _ _ _ rfl ((owns_drewN HO.out.1 _).alloc _) ⟨wr.heap.size, 0, none⟩ 1 1 [.int .i64 y] rfl rfl (cell_one_new _ _ _) ?c2a ?c3a ?c4a ?c5a ?_)
        case c2a => intro u hu; simp at hu; subst hu; rfl
        case c3a => unfold maxLen; omega
        case c4a => omega
        case c5a => have := HO.out.2.1.size; simp; omega
        intro v' w1 hown' hgrow hnn
        clear hnn
        have R := hid (app_one (w0 := w) rfl (owns_drewN HO.out.1 _) (below_drewN' HO.out.2.1 _) hown' hgrow)
        clear hown' hgrow
        go_wp2
        go_roundw
        case rel => exact ⟨i, k + 1, o ++ [y], by omega, by omega, by have := HOL.out; simp; omega, by go_num, by go_num, R.out.1, R.out.2, RIGHT.out hkl (.inl (by omega))⟩
        case measure => simp [intOf]; omega
      · have HE : Hid (wr.ownsRow w.heap.size 3 1 u5 o.length (o.map (Value.int .i64)) ∧ Below w.heap.size w wr ∧ o = mrg a b) := by
          have h := HO.out
          rw [drop_none a i (by omega), drop_none b k (by omega), mrg_nil, List.append_nil] at h
          exact h
        go_wp2
        go_ret
        obtain ⟨e1, e2, e3⟩ := HE.out
        rw [e3] at e1
        obtain ⟨ao, c, e4, e5⟩ := owns_seg e1
        exact ⟨ao, ⟨c, congrArg Ending.returned e4⟩, e5, e2⟩
end Go.Proofs.Ythdmjmnkhlpnnaa
