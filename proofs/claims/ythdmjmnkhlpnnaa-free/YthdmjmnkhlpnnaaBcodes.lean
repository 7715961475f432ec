/-
  What Book.codes answers: true, and the book goes on.
-/
import Derived.Test.YthdmjmnkhlpnnaaOwnw
import Derived.Test.YthdmjmnkhlpnnaaSame
namespace Go.Proofs.Ythdmjmnkhlpnnaa
open Go.RowKit

theorem Row.below {w w' : World} {g : Nat} {l : List Int} (h : Row w g l) (hb : Below w.heap.size w w') : Row w' g l := by
  unfold Row
  rw [hb.block g h.lt]
  exact h
theorem New.shape {w w' : World} {v : Value} {l : List Int} (h : New w w' v l) : ∃ va, v = .slice va l.length l.length ∧ (va = none → l.length = 0 ∧ l.length = 0) ∧ ∀ b, va = some b → ∃ g, b = ⟨g, 0, none⟩ ∧ w.heap.size ≤ g ∧ Row w' g l := by
  rcases h with ⟨rfl, rfl⟩ | ⟨g, rfl, hg, hr⟩
  · exact ⟨none, rfl, fun _ => ⟨rfl, rfl⟩, fun b hb => by cases hb⟩
  · exact ⟨some ⟨g, 0, none⟩, rfl, fun e => (by cases e), fun b hb => (by injection hb with hb; exact ⟨g, hb.symm, hg, hr⟩)⟩
theorem seg_of {w : World} {va : Option Addr} {l : List Int} (hn : va = none → l.length = 0 ∧ l.length = 0) (h : ∀ b, va = some b → ∃ g, b = ⟨g, 0, none⟩ ∧ Row w g l) : Seg w va l := by
  cases va with
  | none => intro h0; have := (hn rfl).1; omega
  | some b => obtain ⟨g, rfl, hr⟩ := h b rfl; exact hr.seg
theorem same_self (a1 a2 : Option Addr) (c1 c2 : Nat) (xs : List Int) (w : World) (h1 : Seg w a1 xs) (h2 : Seg w a2 xs) (hm1 : xs.length ≤ maxLen) :
    Calls Try.prog 18 #[.slice a1 xs.length c1, .slice a2 xs.length c2] w fun e w' => e = .returned (.bool true) ∧ ∃ n, w' = w.drewN n := by
  refine (same_any a1 a2 c1 c2 xs xs w h1 h2 hm1).mono ?_
  rintro e w' ⟨rfl, h⟩
  exact ⟨ret_bool (by simp), h⟩
theorem refcodes_any (ao : Option Addr) (c : Nat) (zs : List Int) (w : World) (hs : Seg w ao zs) (hm : zs.length ≤ maxLen) :
    Calls Try.prog 17 #[.slice ao zs.length c] w fun e w' => ∃ ao' c', e = .returned (.tuple #[.slice ao' (cout zs).length c', .int .i64 (cerr zs)]) ∧ Seg w' ao' (cout zs) ∧ Below w.heap.size w w' := by
  by_cases hbad : 320 < zs.length ∨ zs.any nl = true
  · refine (refcodes_number ao c zs w hs hm hbad).mono ?_
    rintro e w' ⟨rfl, rfl⟩
    have e1 : cout zs = [] := by simp only [cout, if_pos hbad]
    have e2 : cerr zs = 9 := by simp only [cerr, if_pos hbad]
    rw [e1, e2]
    exact ⟨none, 0, rfl, fun h => by simp at h, Below.refl _ _⟩
  · have h320 : zs.length ≤ 320 := by omega
    have hok : zs.any nl = false := by
      rcases h : zs.any nl with _ | _
      · rfl
      · exact absurd (Or.inr h) hbad
    by_cases hw : 32768 < wt zs
    · refine (refcodes_code ao c zs w hs h320 hok hw).mono ?_
      rintro e w' ⟨rfl, rfl⟩
      have e1 : cout zs = [] := by simp only [cout, if_neg hbad, if_pos hw]
      have e2 : cerr zs = 3 := by simp only [cerr, if_neg hbad, if_pos hw]
      rw [e1, e2]
      exact ⟨none, 0, rfl, fun h => by simp at h, Below.refl _ _⟩
    · refine (refcodes_ok ao c zs w hs h320 hok (by omega)).mono ?_
      rintro e w' ⟨ao', c', rfl, hseg, hb⟩
      have e1 : cout zs = bts zs := by simp only [cout, if_neg hbad, if_neg hw]
      have e2 : cerr zs = 0 := by simp only [cerr, if_neg hbad, if_neg hw]
      rw [e1, e2]
      exact ⟨ao', c', rfl, hseg, hb⟩

section
variable {w : World} {bk : Nat} {L : List (Value × Int)} {nx : Int} {lv mv gv : Value} {gs : List Int}
theorem Book.fresh (h : Book w bk L nx lv mv gv gs) {g : Nat} (hg : w.heap.size ≤ g) : bk < g ∧ mv.ownBlock ≠ some g ∧ gv.ownBlock ≠ some g ∧ (∀ p ∈ L, p.1.ownBlock ≠ some g) ∧ lv.ownBlock ≠ some g := by
  refine ⟨by have := h.lt; omega, fun e => ?_, fun e => ?_, fun p hp e => ?_, fun e => ?_⟩
  · have := (h.hm.lt g e).2; omega
  · have := (h.hg.lt g e).2; omega
  · have := (h.marks p hp).lt e; omega
  · have := (h.hl.lt g e).2; omega
end
theorem below_N {w : World} (n : Nat) : Below w.heap.size w (w.drewN n) := below_drewN (Below.refl _ _) n

set_option maxRecDepth 20000 in
set_option maxHeartbeats 2000000 in
theorem bcodes_any {w0 w : World} {bk : Nat} {L : List (Value × Int)} {nx : Int} {lv mv gv : Value} {gs zs : List Int} (hB : Book w bk L nx lv mv gv gs) (hL : L.length ≤ 90000000) (hx1 : -900000000 ≤ nx) (hx2 : nx ≤ 0)
    (ao : Option Addr) (c : Nat) (hseg : Seg w0 ao zs) (h0 : Below w0.heap.size w0 w) (hbk : w0.heap.size ≤ bk) (hn : ao = none → zs.length = 0 ∧ c = 0) (hz : zs.length ≤ 1048576) :
    Calls Try.prog 8 #[.pointer (some ⟨bk, 0, none⟩), .slice ao zs.length c] w fun e w' => e = .returned (.bool true) ∧ ∃ L' lv' mv' gv' gs', L'.length = L.length + 8 ∧ Book w' bk L' (nx - 2) lv' mv' gv' gs' ∧ Below bk w w' := by
  have HB := hid hB
  have HS := hid hseg
  have HN := hid hn
  have H0 := hid h0
  clear hB hseg hn h0
  have hm : zs.length ≤ maxLen := by unfold maxLen; omega
  have hcl := cout_le zs
  have hcm : (cout zs).length ≤ maxLen := by unfold maxLen; omega
  go_enter Try.func8, Try.ntmps8
  go_wp2_with fail
  refine (hands_any HB.out ao c (HS.out.below H0.out) HN.out hz).mono ?_
  rintro e w1 ⟨gv1, rfl, B1, b1⟩
  obtain ⟨ga, gc, rfl, S1⟩ := owns_seg B1.hg
  have HB1 := hid B1
  have Hb1 := hid b1
  have HS1 := hid S1
  clear B1 b1 S1
  go_wp2_with fail
  refine (codes_any ga gc zs w1 HS1.out hm).mono ?_
  rintro e w2 ⟨v1, rfl, N1, b2⟩
  obtain ⟨va1, rfl, n1, r1⟩ := N1.shape
  have Hb2 := hid b2
  have Hn1 := hid n1
  have Hr1 := hid r1
  clear N1 b2 n1 r1
  go_wp2_with fail
  refine (codes_any ga gc zs w2 (HS1.out.below Hb2.out) hm).mono ?_
  rintro e w3 ⟨v2, rfl, N2, b3⟩
  obtain ⟨va2, rfl, n2, r2⟩ := N2.shape
  have Hb3 := hid b3
  have Hn2 := hid n2
  have Hr2 := hid r2
  clear N2 b3 n2 r2
  go_wp2_with fail
  have H3 : Hid (Below w0.heap.size w0 w3) := H0.out.trans ((Hb1.out.mono hbk).trans ((Hb2.out.mono (by have := Hb1.out.size; have := H0.out.size; omega)).trans (Hb3.out.mono (by have := Hb2.out.size; have := Hb1.out.size; have := H0.out.size; omega))))
  refine (refcodes_any ao c zs w3 (HS.out.below H3.out) hm).mono ?_
  rintro e w4 ⟨a3, c3, rfl, S3, b4⟩
  have HS3 := hid S3
  have Hb4 := hid b4
  clear S3 b4
  have z1 := Hb1.out.size
  have z2 := Hb2.out.size
  have z3 := Hb3.out.size
  have z4 := Hb4.out.size
  have HSa : Hid (Seg w4 va1 (cout zs)) := seg_of Hn1.out fun b hb => by
    obtain ⟨g, e, _, hr⟩ := Hr1.out b hb
    exact ⟨g, e, (hr.below Hb3.out).below Hb4.out⟩
  have HSb : Hid (Seg w4 va2 (cout zs)) := seg_of Hn2.out fun b hb => by
    obtain ⟨g, e, _, hr⟩ := Hr2.out b hb
    exact ⟨g, e, hr.below Hb4.out⟩
  have HSg : Hid (Seg w4 ga zs) := ((HS1.out.below Hb2.out).below Hb3.out).below Hb4.out
  have HSl : Hid (Seg w4 ao zs) := HS.out.below (H3.out.trans (Hb4.out.mono H3.out.size))
  go_wp2_with fail
  refine (same_self va1 a3 _ _ (cout zs) w4 HSa.out HS3.out hcm).mono ?_
  rintro e w5 ⟨rfl, q5, hw5⟩
  have Hb5 : Hid (Below w4.heap.size w4 w5) := by rw [hw5]; exact below_N q5
  clear hw5
  have z5 := Hb5.out.size
  go_wp2_with fail
  refine (same_self va2 a3 _ _ (cout zs) w5 (HSb.out.below Hb5.out) (HS3.out.below Hb5.out) hcm).mono ?_
  rintro e w6 ⟨rfl, q6, hw6⟩
  have Hb6 : Hid (Below w4.heap.size w4 w6) := by rw [hw6]; exact Hb5.out.trans ((below_N q6).mono z5)
  clear hw6
  have z6 := Hb6.out.size
  go_wp2_with fail
  refine (same_self ga ao _ _ zs w6 (HSg.out.below Hb6.out) (HSl.out.below Hb6.out) hm).mono ?_
  rintro e w7 ⟨rfl, q7, hw7⟩
  have Hb7 : Hid (Below w4.heap.size w4 w7) := by rw [hw7]; exact Hb6.out.trans ((below_N q7).mono z6)
  clear hw7
  have z7 := Hb7.out.size
  have HB7 : Hid (Book w7 bk L nx lv mv (.slice ga zs.length gc) zs) := (((HB1.out.below Hb2.out).below Hb3.out).below Hb4.out).below Hb7.out
  go_wp2_with fail
  refine (takes_any HB7.out hz).mono ?_
  rintro e w8 ⟨rfl, ⟨gs8, B8⟩, b8, G8⟩
  have HB8 := hid B8
  have Hb8 := hid b8
  have HG8 := hid G8
  clear B8 b8 G8
  have z8 := Hb8.out.size
  have r1 : Hid (∀ b, va1 = some b → ∃ g, b = ⟨g, 0, none⟩ ∧ w1.heap.size ≤ g ∧ g < w2.heap.size ∧ Row w8 g (cout zs)) := fun b hb => by
    obtain ⟨g, e, hg, hr⟩ := Hr1.out b hb
    refine ⟨g, e, hg, hr.lt, ?_⟩
    have hr7 := ((hr.below Hb3.out).below Hb4.out).below Hb7.out
    unfold Row
    rw [HG8.out.block g hr7.lt (fun e => (HB1.out.fresh hg).2.2.1 e.symm)]
    exact hr7
  have r2 : Hid (∀ b, va2 = some b → ∃ g, b = ⟨g, 0, none⟩ ∧ w2.heap.size ≤ g ∧ g < w3.heap.size ∧ Row w8 g (cout zs)) := fun b hb => by
    obtain ⟨g, e, hg, hr⟩ := Hr2.out b hb
    refine ⟨g, e, hg, hr.lt, ?_⟩
    have hr7 := (hr.below Hb4.out).below Hb7.out
    unfold Row
    rw [HG8.out.block g hr7.lt (fun e => (HB1.out.fresh (g := g) (by omega)).2.2.1 e.symm)]
    exact hr7
  go_wp2_with fail
  refine (owns_any HB8.out va1 (cout zs).length hcl (by omega) (by omega) hx2 Hn1.out ?_ ?_).mono ?_
  · intro b hb
    obtain ⟨g, e, _, _, hr⟩ := r1.out b hb
    exact ⟨g, _, e, rfl, hr⟩
  · intro g hg
    obtain ⟨g', e, h1, _, _⟩ := r1.out _ hg
    injection e with e
    subst e
    obtain ⟨f1, f2, f3, f4, _⟩ := HB1.out.fresh h1
    exact ⟨f1, f2, f3, f4⟩
  rintro e w9 ⟨rfl, N9, lv9, mv9, l9, B9, k9, b9, m9, p9⟩
  have HB9 := hid B9
  have Hk9 := hid k9
  have Hb9 := hid b9
  have Hm9 := hid m9
  have Hp9 := hid p9
  have Hl9 := hid l9
  clear B9 k9 b9 m9 p9 l9
  go_wp2_with fail
  refine (owns_any HB9.out va2 (cout zs).length hcl (by rw [List.length_append, Hl9.out]; omega) (by omega) (by omega) Hn2.out ?_ ?_).mono ?_
  · intro b hb
    obtain ⟨g, e, h1, h2, hr⟩ := r2.out b hb
    refine ⟨g, _, e, rfl, ?_⟩
    obtain ⟨f1, f2, f3, f4, f5⟩ := HB1.out.fresh (g := g) (by omega)
    unfold Row
    rw [Hk9.out g hr.lt (by omega) ?_ f5 f2]
    · exact hr
    · intro e2
      cases va1 with
      | none => simp [Value.ownBlock] at e2
      | some b1 =>
        obtain ⟨g1, e3, _, h3, _⟩ := r1.out b1 rfl
        subst e3
        simp [Value.ownBlock] at e2
        omega
  · intro g hg
    obtain ⟨g', e, h1, h2, hr⟩ := r2.out _ hg
    injection e with e
    subst e
    obtain ⟨f1, f2, f3, f4, _⟩ := HB1.out.fresh (g := g) (by omega)
    have hlt := hr.lt
    refine ⟨f1, fun e => ?_, f3, fun p hp => ?_⟩
    · rcases Hm9.out with h | h
      · exact f2 (h ▸ e)
      · have := h g e; omega
    · rcases List.mem_append.1 hp with hp | hp
      · exact f4 p hp
      · intro e2
        rcases Hp9.out p hp with h | h
        · rw [h] at e2
          cases va1 with
          | none => simp [Value.ownBlock] at e2
          | some b1 =>
            obtain ⟨g1, e3, _, h3, _⟩ := r1.out b1 rfl
            subst e3
            simp [Value.ownBlock] at e2
            omega
        · have := h g e2; omega
  rintro e w10 ⟨rfl, N10, lv10, mv10, l10, B10, _, b10, _, _⟩
  have HB10 := hid B10
  have Hb10 := hid b10
  have Hl10 := hid l10
  clear B10 b10 l10
  go_wp2_with (go_at_call 21; refine (num_any _ _).mono ?_; rintro e w' ⟨rfl, rfl⟩)
  go_ret
  refine ⟨rfl, L ++ N9 ++ N10, lv10, mv10, .slice ga zs.length gc, gs8, by simp [Hl9.out, Hl10.out], ?_, ?_⟩
  · have := HB10.out
    rw [show nx - 1 - 1 = nx - 2 by omega] at this
    exact this
  · have hlt := HB1.out.lt
    exact Hb1.out.trans ((Hb2.out.mono (by omega)).trans ((Hb3.out.mono (by omega)).trans ((Hb4.out.mono (by omega)).trans ((Hb7.out.mono (by omega)).trans (Hb8.out.trans (Hb9.out.trans Hb10.out))))))
end Go.Proofs.Ythdmjmnkhlpnnaa
