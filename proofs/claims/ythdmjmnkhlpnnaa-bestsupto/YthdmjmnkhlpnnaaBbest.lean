/-
  What Book.best answers: true, and the book goes on.
-/
import Derived.Test.YthdmjmnkhlpnnaaBest
namespace Go.Proofs.Ythdmjmnkhlpnnaa
open Go.RowKit

/-- what Lengths answers -/
def Ans (cs : List Int) (m : Int) (L : List Int) : Prop :=
  (mayb cs m = true ∧ ∃ C, L = chl cs C ∧ Chs (sing cs) m.toNat C ∧ ChsD (sing cs) m.toNat C) ∨ (mayb cs m = false ∧ L = [])
theorem Ans.det {cs : List Int} {m : Int} {L L' : List Int} (h : Ans cs m L) (h' : Ans cs m L') : L = L' := by
  rcases h with ⟨h0, C, e, _, d⟩ | ⟨h0, e⟩
  · rcases h' with ⟨_, C', e', _, d'⟩ | ⟨h1, _⟩
    · rw [e, e', d.det d']
    · rw [h0] at h1; cases h1
  · rcases h' with ⟨h1, _⟩ | ⟨_, e'⟩
    · rw [h0] at h1; cases h1
    · rw [e, e']
theorem mayb_out {cs : List Int} {m : Int} (h : mayb cs m = true) : cs.any nc = false ∧ cs.length ≤ 320 ∧ 1 ≤ m ∧ m ≤ 15 ∧ (sing cs).length ≤ 2 ^ m.toNat := of_decide_eq_true h
theorem Ans.le {cs : List Int} {m : Int} {L : List Int} (h : Ans cs m L) : L.length ≤ 320 := by
  rcases h with ⟨h0, C, e, _, _⟩ | ⟨_, e⟩
  · have := mayb_out h0
    rw [e, chl_length]
    exact this.2.1
  · rw [e]; simp
/-- the error of Lengths -/
def lerr (cs : List Int) (m : Int) : Int := if mayb cs m = true then 0 else 9
theorem blen_any (ao : Option Addr) (c : Nat) (cs : List Int) (m : Int) (w : World) (hs : Seg w ao cs) (hl : cs.length ≤ maxLen) :
    Calls Try.prog 12 #[.slice ao cs.length c, .int .i64 m] w fun e w' => ∃ v L, e = .returned (.tuple #[v, .int .i64 (lerr cs m)]) ∧ New w w' v L ∧ Ans cs m L ∧ Below w.heap.size w w' := by
  by_cases hm : mayb cs m = true
  · obtain ⟨m1, m2, m3, m4, m5⟩ := mayb_out hm
    have e : ((m.toNat : Nat) : Int) = m := by omega
    have h := blengths_det ao c cs m.toNat w hs m2 m1 (by omega) (by omega) m5
    rw [e] at h
    refine h.mono ?_
    rintro en w' ⟨g, C, rfl, hg, hr, hc, hb, hd⟩
    refine ⟨_, chl cs C, by unfold lerr; rw [if_pos hm], .inr ⟨g, by rw [chl_length], hg, hr⟩, .inl ⟨hm, C, rfl, hc, hd⟩, hb⟩
  · have hm' : mayb cs m = false := by simpa using hm
    have e9 : lerr cs m = 9 := by unfold lerr; rw [if_neg hm]
    by_cases hbad : 320 < cs.length ∨ cs.any nc = true ∨ m < 1 ∨ 15 < m
    · refine (blengths_number ao c cs m w hs hl hbad).mono ?_
      rintro en w' ⟨rfl, rfl⟩
      exact ⟨_, [], by rw [e9], .inl ⟨rfl, rfl⟩, .inr ⟨hm', rfl⟩, Below.refl _ _⟩
    · have h320 : cs.length ≤ 320 := by omega
      have hnc : cs.any nc = false := by
        cases e : cs.any nc with
        | false => rfl
        | true => exact absurd (Or.inr (Or.inl e)) hbad
      have e : ((m.toNat : Nat) : Int) = m := by omega
      have h := blengths_many ao c cs m.toNat w hs h320 hnc (by omega) (by omega) (by
        rcases Nat.lt_or_ge (2 ^ m.toNat) (sing cs).length with h | h
        · exact h
        · exact absurd (decide_eq_true ⟨hnc, h320, by omega, by omega, h⟩) hm)
      rw [e] at h
      refine h.mono ?_
      rintro en w' ⟨rfl, hb⟩
      exact ⟨_, [], by rw [e9], .inl ⟨rfl, rfl⟩, .inr ⟨hm', rfl⟩, hb⟩

set_option maxRecDepth 20000 in
set_option maxHeartbeats 4000000 in
theorem bbest_any {w0 w : World} {bk : Nat} {L : List (Value × Int)} {nx : Int} {lv mv gv : Value} {gs zs : List Int} (m : Int) (hB : Book w bk L nx lv mv gv gs) (hL : L.length ≤ 90000000) (hx1 : -900000000 ≤ nx) (hx2 : nx ≤ 0)
    (ao : Option Addr) (c : Nat) (hseg : Seg w0 ao zs) (h0 : Below w0.heap.size w0 w) (hbk : w0.heap.size ≤ bk) (hn : ao = none → zs.length = 0 ∧ c = 0) (hz : zs.length ≤ 1048576) :
    Calls Try.prog 10 #[.pointer (some ⟨bk, 0, none⟩), .slice ao zs.length c, .int .i64 m] w fun e w' => e = .returned (.bool true) ∧ ∃ L' lv' mv' gv' gs', L'.length = L.length + 8 ∧ Book w' bk L' (nx - 2) lv' mv' gv' gs' ∧ Below bk w w' := by
  have HB := hid hB
  have HS := hid hseg
  have HN := hid hn
  have H0 := hid h0
  clear hB hseg hn h0
  have hm : zs.length ≤ maxLen := by unfold maxLen; omega
  obtain ⟨er, her⟩ : ∃ er, er = lerr zs m := ⟨_, rfl⟩
  have HER := hid her
  clear her
  go_enter Try.func10, Try.ntmps10
  go_wp2_with fail
  refine (hands_any HB.out ao c (HS.out.below H0.out) HN.out hz).mono ?_
  rintro e w1 ⟨gv1, rfl, B1, b1⟩
  obtain ⟨ga, gc, rfl, S1⟩ := owns_seg B1.hg
  have HB1 := hid B1
  have Hb1 := hid b1
  have HS1 := hid S1
  clear B1 b1 S1
  go_wp2_with fail
  refine (blen_any ga gc zs m w1 HS1.out hm).mono ?_
  rintro e w2 ⟨v1, O, rfl, N1, A1, b2⟩
  obtain ⟨va1, rfl, n1, r1⟩ := N1.shape
  have Hb2 := hid b2
  have Hn1 := hid n1
  have Hr1 := hid r1
  have HA := hid A1
  have hcl := A1.le
  clear N1 b2 n1 r1 A1
  rw [← HER.out]
  go_wp2_with fail
  refine (blen_any ga gc zs m w2 (HS1.out.below Hb2.out) hm).mono ?_
  rintro e w3 ⟨v2, O2, rfl, N2, A2, b3⟩
  have hOO := Ans.det A2 HA.out
  subst hOO
  obtain ⟨va2, rfl, n2, r2⟩ := N2.shape
  have Hb3 := hid b3
  have Hn2 := hid n2
  have Hr2 := hid r2
  clear N2 b3 n2 r2 A2
  rw [← HER.out]
  have hcm : O2.length ≤ maxLen := by unfold maxLen; omega
  have H3 : Hid (Below w0.heap.size w0 w3) := H0.out.trans ((Hb1.out.mono hbk).trans ((Hb2.out.mono (by have := Hb1.out.size; have := H0.out.size; omega)).trans (Hb3.out.mono (by have := Hb2.out.size; have := Hb1.out.size; have := H0.out.size; omega))))
  have z1 := Hb1.out.size
  have z2 := Hb2.out.size
  have z3 := Hb3.out.size
  have HSa : Hid (Seg w3 va1 O2) := seg_of Hn1.out fun b hb => by
    obtain ⟨g, e, _, hr⟩ := Hr1.out b hb
    exact ⟨g, e, hr.below Hb3.out⟩
  have HSb : Hid (Seg w3 va2 O2) := seg_of Hn2.out fun b hb => by
    obtain ⟨g, e, _, hr⟩ := Hr2.out b hb
    exact ⟨g, e, hr⟩
  have HSg : Hid (Seg w3 ga zs) := (HS1.out.below Hb2.out).below Hb3.out
  have HSl : Hid (Seg w3 ao zs) := HS.out.below H3.out
  go_wp2_with fail
  refine (same_self va2 va1 _ _ O2 w3 HSb.out HSa.out hcm).mono ?_
  rintro e w5 ⟨rfl, q5, hw5⟩
  have Hb5 : Hid (Below w3.heap.size w3 w5) := by rw [hw5]; exact below_N q5
  clear hw5
  have z5 := Hb5.out.size
  go_wp2_with fail
  refine (may_any ao c zs m w5 (HSl.out.below Hb5.out) hz).mono ?_
  rintro e w6 ⟨rfl, hw6⟩
  subst hw6
  have HNO : Hid (mayb zs m = false → O2.length = 0 ∧ er = 9) := fun h => by
    rcases HA.out with ⟨h1, _⟩ | ⟨_, h2⟩
    · rw [h] at h1; cases h1
    · refine ⟨by rw [h2]; rfl, ?_⟩
      rw [HER.out]; unfold lerr; rw [h]; rfl
  have HYES : Hid (mayb zs m = true → er = 0 ∧ Calls Try.prog 23 #[.slice ao zs.length c, .int .i64 m, .slice va1 O2.length O2.length] w5 fun e w' => e = .returned (.bool true) ∧ Below w5.heap.size w5 w') := fun h => by
    refine ⟨by rw [HER.out]; unfold lerr; rw [if_pos h], ?_⟩
    rcases HA.out with ⟨_, C, h2, h3, _⟩ | ⟨h1, _⟩
    · obtain ⟨m1, m2, m3, m4, m5⟩ := mayb_out h
      have e : ((m.toNat : Nat) : Int) = m := by omega
      have hsa := HSa.out.below Hb5.out
      rw [h2] at hsa
      have hb := best_any ao va1 c zs.length zs m.toNat C w5 (HSl.out.below Hb5.out) hsa m2 m1 (by omega) (by omega) m5 h3
      rw [e] at hb
      rw [h2, chl_length]
      exact hb
    · rw [h] at h1; cases h1
  go_upto_region 6 with fail
  obtain ⟨ol, hol⟩ : ∃ ol, ol = O2.length := ⟨_, rfl⟩
  rw [← hol] at HNO HYES hcl ⊢
  have HOL := hid hol
  clear hol hcm
  go_cut [14] (fun s wx => ∃ b14 : Bool, s = .bool b14 ∧ Hid (mayb zs m = false → b14 = true) ∧ wx = w5)
  case first =>
    by_cases hO : ol = 0
    · by_cases h9 : er = 9
      · have h9b : (er == 9) = true := by simp [h9]
        have hOb : ((ol : Int) == 0) = true := by simp; omega
        clear h9 hO
        go_wp2_with (go_at_call 21; refine (num_any _ _).mono ?_; rintro e w' ⟨rfl, rfl⟩)
        go_meet
        exact ⟨true, rfl, fun _ => rfl, rfl⟩
      · have h9b : (er == 9) = false := by simp [h9]
        have hOb : ((ol : Int) == 0) = true := by simp; omega
        clear hO
        have HF : Hid (mayb zs m = false → (false : Bool) = true) := fun h => absurd (HNO.out h).2 h9
        go_wp2_with (go_at_call 21; refine (num_any _ _).mono ?_; rintro e w' ⟨rfl, rfl⟩)
        go_meet
        exact ⟨false, rfl, HF, rfl⟩
    · have hOb : ((ol : Int) == 0) = false := by simp; omega
      have HF : Hid (mayb zs m = false → (false : Bool) = true) := fun h => absurd (HNO.out h).1 hO
      go_wp2_with (go_at_call 21; refine (num_any _ _).mono ?_; rintro e w' ⟨rfl, rfl⟩)
      go_meet
      exact ⟨false, rfl, HF, rfl⟩
  case rest =>
  obtain ⟨b14, rfl, HB14, rfl⟩ := hcut
  go_upto_if 46 with fail
  obtain ⟨w5, hw5⟩ : ∃ w5, w5 = wc := ⟨_, rfl⟩
  subst hw5
  obtain ⟨mb, hmb⟩ : ∃ b, b = mayb zs m := ⟨_, rfl⟩
  rw [← hmb] at HYES HB14 ⊢
  clear hmb
  go_cut [13, 14, 15] (fun _ s _ wx => s = .bool true ∧ Hid (Below w5.heap.size w5 wx))
  case first =>
    cases mb with
    | true =>
      have he0 : (er == 0) = true := by simp [(HYES.out rfl).1]
      have HC := hid (HYES.out rfl).2
      go_wp2_with (go_at_call 23; refine HC.out.mono ?_; rintro e w' ⟨rfl, hb⟩)
      go_meet
      exact ⟨rfl, hb⟩
    | false =>
      have h14 : b14 = true := HB14.out rfl
      have HR : Hid (Below w5.heap.size w5 w5) := Below.refl _ _
      subst h14
      go_wp2
      go_meet
      exact ⟨rfl, HR⟩
  case rest =>
  obtain ⟨rfl, Hb6⟩ := hcut
  obtain ⟨w6, hw6⟩ : ∃ w6, w6 = wc := ⟨_, rfl⟩
  subst hw6
  have z6 := Hb6.out.size
  have Hb36 : Hid (Below w3.heap.size w3 w6) := Hb5.out.trans (Hb6.out.mono Hb5.out.size)
  clear HYES HNO HB14
  go_wp2_with fail
  refine (same_self ga ao _ _ zs w6 (HSg.out.below Hb36.out) (HSl.out.below Hb36.out) hm).mono ?_
  rintro e w7 ⟨rfl, q7, hw7⟩
  have Hb7 : Hid (Below w3.heap.size w3 w7) := by rw [hw7]; exact Hb36.out.trans ((below_N q7).mono Hb36.out.size)
  clear hw7
  have z7 := Hb7.out.size
  have HB7 : Hid (Book w7 bk L nx lv mv (.slice ga zs.length gc) zs) := ((HB1.out.below Hb2.out).below Hb3.out).below Hb7.out
  go_wp2_with fail
  refine (takes_any HB7.out hz).mono ?_
  rintro e w8 ⟨rfl, ⟨gs8, B8⟩, b8, G8⟩
  have HB8 := hid B8
  have Hb8 := hid b8
  have HG8 := hid G8
  clear B8 b8 G8
  have z8 := Hb8.out.size
  have r1 : Hid (∀ b, va1 = some b → ∃ g, b = ⟨g, 0, none⟩ ∧ w1.heap.size ≤ g ∧ g < w2.heap.size ∧ Row w8 g O2) := fun b hb => by
    obtain ⟨g, e, hg, hr⟩ := Hr1.out b hb
    refine ⟨g, e, hg, hr.lt, ?_⟩
    have hr7 := (hr.below Hb3.out).below Hb7.out
    unfold Row
    rw [HG8.out.block g hr7.lt (fun e => (HB1.out.fresh hg).2.2.1 e.symm)]
    exact hr7
  have r2 : Hid (∀ b, va2 = some b → ∃ g, b = ⟨g, 0, none⟩ ∧ w2.heap.size ≤ g ∧ g < w3.heap.size ∧ Row w8 g O2) := fun b hb => by
    obtain ⟨g, e, hg, hr⟩ := Hr2.out b hb
    refine ⟨g, e, hg, hr.lt, ?_⟩
    have hr7 := hr.below Hb7.out
    unfold Row
    rw [HG8.out.block g hr7.lt (fun e => (HB1.out.fresh (g := g) (by omega)).2.2.1 e.symm)]
    exact hr7
  have Hn1' : Hid (va1 = none → ol = 0 ∧ ol = 0) := by rw [HOL.out]; exact Hn1
  have Hn2' : Hid (va2 = none → ol = 0 ∧ ol = 0) := by rw [HOL.out]; exact Hn2
  go_wp2_with fail
  refine (owns_any HB8.out va1 ol hcl (by omega) (by omega) hx2 Hn1'.out ?_ ?_).mono ?_
  · intro b hb
    obtain ⟨g, e, _, _, hr⟩ := r1.out b hb
    exact ⟨g, _, e, HOL.out.symm, hr⟩
  · intro g hg
    obtain ⟨g', e, h1, _, _⟩ := r1.out _ hg
    injection e with e
    subst e
    obtain ⟨f1, f2, f3, f4, _⟩ := HB1.out.fresh h1
    exact ⟨f1, f2, f3, f4⟩
  rintro e w9 ⟨rfl, N9, lv9, mv9, l9, B9, k9, b9, m9, p9⟩
  have HB9 := hid B9
  have Hk9 := hid k9
  have Hb9 := hid b9
  have Hm9 := hid m9
  have Hp9 := hid p9
  have Hl9 := hid l9
  clear B9 k9 b9 m9 p9 l9
  go_wp2_with fail
  refine (owns_any HB9.out va2 ol hcl (by rw [List.length_append, Hl9.out]; omega) (by omega) (by omega) Hn2'.out ?_ ?_).mono ?_
  · intro b hb
    obtain ⟨g, e, h1, h2, hr⟩ := r2.out b hb
    refine ⟨g, _, e, HOL.out.symm, ?_⟩
    obtain ⟨f1, f2, f3, f4, f5⟩ := HB1.out.fresh (g := g) (by omega)
    unfold Row
    rw [Hk9.out g hr.lt (by omega) ?_ f5 f2]
    · exact hr
    · intro e2
      cases va1 with
      | none => simp [Value.ownBlock] at e2
      | some b1 =>
        obtain ⟨g1, e3, _, h3, _⟩ := r1.out b1 rfl
        subst e3
        simp [Value.ownBlock] at e2
        omega
  · intro g hg
    obtain ⟨g', e, h1, h2, hr⟩ := r2.out _ hg
    injection e with e
    subst e
    obtain ⟨f1, f2, f3, f4, _⟩ := HB1.out.fresh (g := g) (by omega)
    have hlt := hr.lt
    refine ⟨f1, fun e => ?_, f3, fun p hp => ?_⟩
    · rcases Hm9.out with h | h
      · exact f2 (h ▸ e)
      · have := h g e; omega
    · rcases List.mem_append.1 hp with hp | hp
      · exact f4 p hp
      · intro e2
        rcases Hp9.out p hp with h | h
        · rw [h] at e2
          cases va1 with
          | none => simp [Value.ownBlock] at e2
          | some b1 =>
            obtain ⟨g1, e3, _, h3, _⟩ := r1.out b1 rfl
            subst e3
            simp [Value.ownBlock] at e2
            omega
        · have := h g e2; omega
  rintro e w10 ⟨rfl, N10, lv10, mv10, l10, B10, _, b10, _, _⟩
  have HB10 := hid B10
  have Hb10 := hid b10
  have Hl10 := hid l10
  clear B10 b10 l10
  go_wp2
  go_ret
  refine ⟨rfl, L ++ N9 ++ N10, lv10, mv10, .slice ga zs.length gc, gs8, by simp [Hl9.out, Hl10.out], ?_, ?_⟩
  · have := HB10.out
    rw [show nx - 1 - 1 = nx - 2 by omega] at this
    exact this
  · have hlt := HB1.out.lt
    exact Hb1.out.trans ((Hb2.out.mono (by omega)).trans ((Hb3.out.mono (by omega)).trans ((Hb7.out.mono (by omega)).trans (Hb8.out.trans (Hb9.out.trans Hb10.out)))))
end Go.Proofs.Ythdmjmnkhlpnnaa
