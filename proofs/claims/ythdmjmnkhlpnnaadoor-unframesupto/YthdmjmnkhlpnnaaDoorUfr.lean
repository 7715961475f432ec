/-
  The program's Unframe, whole.
-/
import Derived.Test.YthdmjmnkhlpnnaaDoorFrm
import Derived.Test.YthdmjmnkhlpnnaaDoorBlk
import Derived.Test.YthdmjmnkhlpnnaaDoorInf
namespace Go.Proofs.YthdmjmnkhlpnnaaDoor
open Go.RowKit

theorem cpy_len {M : Int} {b p n : Nat} {t t' : List UInt8} {q : Nat} (h : cpy M b p n t = .ok q t') : t'.length = t.length + n := by
  induction n generalizing t with
  | zero => simp [cpy] at h; rw [h.2]; rfl
  | succ n ih =>
    rw [cpy] at h
    split at h
    · have := ih h
      simp at this
      omega
    · simp at h
theorem agF_len {M : Int} {zb : List Int} {s : ByteArray} {n p : Nat} {t t' : List UInt8} {q : Nat} (h : agF M zb s n p t = .ok q t') : t'.length = t.length + n := by
  unfold agF at h
  split at h
  · simp at h
  · split at h
    · simp at h
    · split at h
      · split at h
        · simp at h
        · exact cpy_len h
      · simp at h
theorem agn_258 : ∀ k, k ≤ 28 → (agn k).1 + 2 ^ (agn k).2 ≤ 259 := by decide
theorem ltF_len {M : Int} {za zb : List Int} {s : ByteArray} {f p : Nat} {t t' : List UInt8} {q : Nat} (h : ltF M za zb s f p t = .ok q t') : t'.length + 258 * p ≤ t.length + 258 * q := by
  induction f generalizing p t with
  | zero => simp [ltF] at h; rw [h.1, h.2]; omega
  | succ f ih =>
    rw [ltF] at h
    split at h
    · simp at h
    · rename_i v r hs
      have hr := sym_ok hs
      split at h
      · split at h
        · have := ih h
          simp at this
          omega
        · simp at h
      · split at h
        · simp at h
          obtain ⟨rfl, rfl⟩ := h
          omega
        · split at h
          · split at h
            · split at h
              · rename_i p2 t2 ha
                have h1 := agF_len ha
                have h2 := agF_end ha
                have h3 := ih h
                have h4 := agn_258 (v - 257).toNat (by omega)
                have h5 := val_lt s r (agn (v - 257).toNat).2
                omega
              · simp at h
            · simp at h
          · simp at h
theorem rawF_len {M : Int} {s : ByteArray} {n a : Nat} {t t' : List UInt8} {q : Nat} (h : rawF M s n a t = .ok q t') : t'.length + 8 * a ≤ t.length + q := by
  induction n generalizing a t with
  | zero => simp [rawF] at h; rw [← h.1, h.2]; omega
  | succ n ih =>
    rw [rawF] at h
    split at h
    · split at h
      · have := ih h
        simp at this
        omega
      · simp at h
    · simp at h
theorem bkF_len {M : Int} {s : ByteArray} {k p : Nat} {t t' : List UInt8} {q : Nat} (h : bkF M s k p t = .ok q t') : t'.length + 258 * p ≤ t.length + 258 * q := by
  unfold bkF at h
  split at h
  · unfold asF at h
    split at h
    · split at h
      · have h1 := rawF_len h
        have h2 := rawF_end h (by omega)
        omega
      · simp at h
    · simp at h
  · split at h
    · exact ltF_len h
    · split at h
      · split at h
        · simp at h
        · rename_i za zb r ho
          have h1 := ltF_len h
          have h2 := owF_len ho
          omega
      · simp at h
theorem blF_len {M : Int} {s : ByteArray} {f p : Nat} {t t' : List UInt8} {q : Nat} (h : blF M s f p t = .ok q t') (hp : p ≤ 8 * s.size) : t'.length + 258 * p ≤ t.length + 258 * q ∧ q ≤ 8 * s.size := by
  induction f generalizing p t with
  | zero => simp [blF] at h; rw [← h.1, h.2]; omega
  | succ f ih =>
    rw [blF] at h
    split at h
    · rename_i h3
      split at h
      · simp at h
      · rename_i r u hb
        have h1 := bkF_len hb
        have h2 := bkF_end hb h3
        split at h
        · simp at h
          rw [← h.1, ← h.2]
          omega
        · have := ih h h2.2
          omega
    · simp at h
/-- the text is no longer than 2,064 times the data, and what is used lies within -/
theorem inF_len {s : ByteArray} {M : Int} {p : Nat} {t : List UInt8} (h : inF s M = .ok p t) : t.length ≤ 258 * p ∧ p ≤ 8 * s.size := by
  have := blF_len h (by omega)
  simp at this
  omega

/-- what Unframe answers -/
def ufF (s : ByteArray) (M : Int) : ByteArray × Nat :=
  if bgF s ≠ 0 then (⟨#[]⟩, bgF s)
  else if (ou (s.extract 2 s.size) M).2.2 ≠ 0 then (⟨#[]⟩, (ou (s.extract 2 s.size) M).2.2)
  else if enF (s.extract (2 + (ou (s.extract 2 s.size) M).2.1) s.size) (ou (s.extract 2 s.size) M).1 ≠ 0 then (⟨#[]⟩, enF (s.extract (2 + (ou (s.extract 2 s.size) M).2.1) s.size) (ou (s.extract 2 s.size) M).1)
  else ((ou (s.extract 2 s.size) M).1, 0)
theorem below_drewN (w : World) (n : Nat) : Below w.heap.size w (w.drewN n) := ((Kp.refl 0 w.heap.size w).drewN n).below
theorem Glo.drewN {w : World} (h : Glo w) (n : Nat) : Glo (w.drewN n) := h
/-- what is used lies within the data, and the text fits -/
theorem ou_fit (s : ByteArray) (M : Int) (hs : s.size ≤ 1048576) (h0 : (ou s M).2.2 = 0) : (ou s M).2.1 ≤ s.size ∧ (ou s M).1.size ≤ maxLen := by
  unfold ou at h0 ⊢
  cases hr : inF s M with
  | ok p t =>
    have := inF_len hr
    simp only
    unfold maxLen
    refine ⟨by omega, ?_⟩
    show t.toArray.size ≤ _
    rw [List.size_toArray]
    omega
  | no e t =>
    exfalso
    rw [hr] at h0
    have he := inF_no hr
    simp only at h0
    split at h0
    · simp at h0
    · simp at h0; exact he h0
theorem bg_size {s : ByteArray} (h : bgF s = 0) : 2 ≤ s.size := by
  unfold bgF at h
  split at h
  · simp at h
  · omega
theorem extract_extract (s : ByteArray) (n : Nat) : (s.extract 2 s.size).extract n (s.extract 2 s.size).size = s.extract (2 + n) s.size := by
  rw [ByteArray.extract_extract]
  congr 1
  rw [ByteArray.size_extract]
  omega

set_option maxHeartbeats 1600000 in
theorem unframe_any (w : World) (s : ByteArray) (m : Int) (hs : s.size ≤ 1048576) (hg : Glo w) (hw : 1 < w.heap.size) :
    Calls Tryd.prog 9 #[.string s, .int .i64 m] w fun e w' => e = .returned (.tuple #[.string (ufF s (max m 0)).1, .int .i64 (ufF s (max m 0)).2]) ∧ Below w.heap.size w w' := by
  have HB := hid (begin_any s w hs)
  obtain ⟨b, hb⟩ : ∃ b, b = bgF s := ⟨_, rfl⟩
  rw [← hb] at HB
  obtain ⟨X, hX⟩ : ∃ X, X = ufF s (max m 0) := ⟨_, rfl⟩
  rw [← hX]
  by_cases h0 : b = 0
  · have h2 := bg_size (hb ▸ h0)
    have h2a : (2 : Int) ≤ (s.size : Int) := by omega
    obtain ⟨D, hD⟩ : ∃ D, D = s.extract 2 s.size := ⟨_, rfl⟩
    have hDs : D.size ≤ 1048576 := by rw [hD, ByteArray.size_extract]; omega
    have HI : Hid (∀ u : World, Glo u → 1 < u.heap.size → Calls Tryd.prog 6 #[.string D, .int .i64 m] u fun e w' => e = .returned (.tuple #[.string (ou D (max m 0)).1, .int .i64 (ou D (max m 0)).2.1, .int .i64 (ou D (max m 0)).2.2]) ∧ Below u.heap.size u w') := fun u h1 h2 => inflate_any u D m hDs h1 h2
    obtain ⟨A, hA⟩ : ∃ A, A = (ou D (max m 0)).1 := ⟨_, rfl⟩
    obtain ⟨N, hN⟩ : ∃ N, N = (ou D (max m 0)).2.1 := ⟨_, rfl⟩
    obtain ⟨E, hE⟩ : ∃ E, E = (ou D (max m 0)).2.2 := ⟨_, rfl⟩
    rw [← hA, ← hN, ← hE] at HI
    have HD := hid hD
    by_cases hE0 : E = 0
    · have hfit := ou_fit D (max m 0) hDs (by rw [← hE]; exact hE0)
      rw [← hA, ← hN] at hfit
      have hND : (N : Int) ≤ (D.size : Int) := by omega
      obtain ⟨R, hRR⟩ : ∃ R, R = D.extract N D.size := ⟨_, rfl⟩
      have hR2 : s.extract (2 + N) s.size = R := by rw [hRR, hD, extract_extract]
      have hRs : R.size ≤ 1048576 := by rw [hRR, ByteArray.size_extract]; omega
      have HEN : Hid (∀ u : World, Calls Tryd.prog 25 #[.string R, .string A] u fun e w' => e = .returned (.int .i64 (enF R A)) ∧ ∃ n, w' = u.drewN n) := fun u => end_any R A u hRs hfit.2
      obtain ⟨f, hf⟩ : ∃ f, f = enF R A := ⟨_, rfl⟩
      rw [← hf] at HEN
      have HXV : Hid (X = if f ≠ 0 then (⟨#[]⟩, f) else (A, 0)) := by
        show X = _
        rw [hX]
        unfold ufF
        rw [← hb, if_neg (by omega), ← hD, ← hE, if_neg (by omega), ← hA, ← hN, hR2, ← hf]
      have HRX := hid hRR
      subst hE0 h0
      have HG := hid hg
      clear hb hX hA hN hE hD hRR hR2 hf hfit hg
      by_cases hf0 : f = 0
      · subst hf0
        go_enter Tryd.func9, Tryd.ntmps9
        go_wp2_with (first | (go_at_call 24; refine HB.out.mono ?_; rintro e w1 ⟨rfl, n1, rfl⟩) | (go_at_call 6; rw [← HD.out]; refine (HI.out _ (HG.out.drewN n1) (by simp; omega)).mono ?_; rintro e w2 ⟨rfl, hb2⟩; have HB2 := hid hb2; clear hb2) | (go_at_call 25; rw [← HRX.out]; refine (HEN.out _).mono ?_; rintro e w3 ⟨rfl, n3, rfl⟩))
        go_ret2
        rw [HXV.out]
        refine ⟨rfl, (below_drewN w n1).trans (HB2.out.trans ?_)⟩
        exact (below_drewN w2 n3).mono HB2.out.size
      · have b1 : ((f : Int) != 0) = true := by rw [bne_iff_ne]; omega
        have HX2 : Hid (X = (⟨#[]⟩, f)) := by show X = _; rw [HXV.out, if_pos hf0]
        go_enter Tryd.func9, Tryd.ntmps9
        go_wp2_with (first | (go_at_call 24; refine HB.out.mono ?_; rintro e w1 ⟨rfl, n1, rfl⟩) | (go_at_call 6; rw [← HD.out]; refine (HI.out _ (HG.out.drewN n1) (by simp; omega)).mono ?_; rintro e w2 ⟨rfl, hb2⟩; have HB2 := hid hb2; clear hb2) | (go_at_call 25; rw [← HRX.out]; refine (HEN.out _).mono ?_; rintro e w3 ⟨rfl, n3, rfl⟩))
        go_ret2
        rw [HX2.out]
        refine ⟨rfl, (below_drewN w n1).trans (HB2.out.trans ?_)⟩
        exact (below_drewN w2 n3).mono HB2.out.size
    · have HXV : Hid (X = (⟨#[]⟩, E)) := by
        show X = _
        rw [hX]
        unfold ufF
        rw [← hb, if_neg (by omega), ← hD, ← hE, if_pos hE0]
      have b1 : ((E : Int) != 0) = true := by rw [bne_iff_ne]; omega
      have HG := hid hg
      subst h0
      clear hb hX hA hN hE hD hg
      go_enter Tryd.func9, Tryd.ntmps9
      go_wp2_with (first | (go_at_call 24; refine HB.out.mono ?_; rintro e w1 ⟨rfl, n1, rfl⟩) | (go_at_call 6; rw [← HD.out]; refine (HI.out _ (HG.out.drewN n1) (by simp; omega)).mono ?_; rintro e w2 ⟨rfl, hb2⟩; have HB2 := hid hb2; clear hb2))
      go_ret2
      rw [HXV.out]
      exact ⟨rfl, (below_drewN w n1).trans HB2.out⟩
  · have HX : Hid (X = (⟨#[]⟩, b)) := by show _ = _; rw [hX]; unfold ufF; rw [← hb, if_pos h0]
    have b1 : ((b : Int) != 0) = true := by rw [bne_iff_ne]; omega
    clear hb hX hg
    go_enter Tryd.func9, Tryd.ntmps9
    go_wp2_with (go_at_call 24; refine HB.out.mono ?_; rintro e w1 ⟨rfl, n, rfl⟩)
    go_ret2
    rw [HX.out]
    exact ⟨rfl, below_drewN w n⟩
end Go.Proofs.YthdmjmnkhlpnnaaDoor
