/-
  Blocks: the program's Reader.block and Reader.Blocks.
-/
import Derived.Test.YthdmjmnkhlpnnaaDoorFix
namespace Go.Proofs.YthdmjmnkhlpnnaaDoor
open Go.RowKit

/-- what a reading that may make the fixed codes comes to -/
def Dix (B : Nat) (s : ByteArray) (M : Int) (r : Tx) (w : World) (e : Ending) (w' : World) : Prop :=
  match r with
  | .ok p t => e = .returned (.tuple #[]) ∧ (∃ tv fx, Rd w' B s p tv t M fx ∧ FxOk w' fx) ∧ Kp 63 B w w'
  | .no k t => e = gone k ∧ (∃ p' tv fx, Rd w' B s p' tv t M fx) ∧ Kp 63 B w w'
theorem Did.dix {B : Nat} {s : ByteArray} {M : Int} {fx : Option Addr} {r : Tx} {w0 w : World} {e : Ending} {w' : World} (h : Did B s M fx r w e w') (hf : FxOk w fx) (hk : Kp 63 B w0 w) : Dix B s M r w0 e w' := by
  cases r with
  | ok p t => obtain ⟨h1, ⟨tv, h2⟩, h3⟩ := h; exact ⟨h1, ⟨tv, fx, h2, hf.kp h3 (.inl rfl)⟩, hk.trans h3⟩
  | no k t => obtain ⟨h1, ⟨p', tv, h2⟩, h3⟩ := h; exact ⟨h1, ⟨p', tv, fx, h2⟩, hk.trans h3⟩

theorem owF_len {s : ByteArray} {p : Nat} {za zb : List Int} {q : Nat} (h : owF s p = .ok za zb q) : za.length ≤ 320 ∧ zb.length ≤ 320 ∧ p < q ∧ q ≤ 8 * s.size := by
  unfold owF at h
  split at h
  · split at h
    · simp at h
    · rename_i hmany
      split at h
      · split at h
        · split at h
          · simp at h
          · rename_i l r hln
            have hl := lnF_ok hln (by simp) (by simp) rfl (by assumption)
            split at h
            · injection h with h1 h2 h3
              subst h1 h2 h3
              simp only [List.length_take, List.length_drop]
              omega
            · simp at h
        · simp at h
      · simp at h
  · simp at h

set_option maxRecDepth 20000 in
set_option maxHeartbeats 1600000 in
theorem block_any (w : World) (B : Nat) (s : ByteArray) (p : Nat) (tv : Value) (t : List UInt8) (M : Int) (fx : Option Addr) (k : Nat) (h : Rd w B s p tv t M fx) (hf : FxOk w fx) (hg : Glo w) (hB : 1 < B) :
    Calls Tryd.prog 34 #[.pointer (some ⟨B, 0, none⟩), .int .i64 k] w fun e w' => Dix B s M (bkF M s k p t) w e w' := by
  have HR := hid h
  have HF := hid hf
  have HG := hid hg
  clear h hf hg
  by_cases k0 : k = 0
  · subst k0
    have HA := hid (asItIs_any w B s p tv t M fx HR.out)
    rw [show bkF M s 0 p t = asF M s p t from rfl]
    have HD : Hid (∀ e w', Did B s M fx (asF M s p t) w e w' → Dix B s M (asF M s p t) w e w') := fun e w' h => h.dix HF.out (Kp.refl _ _ _)
    obtain ⟨r, hr⟩ : ∃ r, r = asF M s p t := ⟨_, rfl⟩
    rw [← hr] at HA HD ⊢
    clear hr
    cases r with
    | ok q u =>
      go_enter Tryd.func34, Tryd.ntmps34
      go_wp2_with (go_at_call 50; refine HA.out.mono ?_; intro e w' hd; obtain ⟨rfl, hx⟩ : e = .returned (.tuple #[]) ∧ Did B s M fx (.ok q u) w e w' := ⟨hd.1, hd⟩; have HX := hid (HD.out _ _ hx); clear hd hx)
      first | go_end0 | refine bodyPost_ret (results_none rfl _ _ _) rfl ?_
      exact HX.out
    | no e1 u =>
      go_enter Tryd.func34, Tryd.ntmps34
      go_wp2_with (go_at_call 50; refine HA.out.mono ?_; intro e w' hd; obtain ⟨rfl, hx⟩ : e = gone e1 ∧ Did B s M fx (.no e1 u) w e w' := ⟨hd.1, hd⟩; have HX := hid (HD.out _ _ hx); clear hd hx)
      exact ⟨rfl, HX.out⟩
  · have b0 : ((k : Int) == 0) = false := beq_eq_false_iff_ne.2 (by omega)
    by_cases k1 : k = 1
    · subst k1
      have HFX := hid (fixed_any w B s p tv t M fx HR.out HF.out)
      rw [show bkF M s 1 p t = ltF M zfa zfb s (8 * s.size + 1) p t from rfl]
      obtain ⟨r, hr⟩ : ∃ r, r = ltF M zfa zfb s (8 * s.size + 1) p t := ⟨_, rfl⟩
      rw [← hr]
      have HRr := hid hr
      clear hr
      cases r with
      | ok q9 u9 =>
        go_enter Tryd.func34, Tryd.ntmps34
        go_wp2_with (first | (go_at_call 52; refine HFX.out.mono ?_; rintro e w1 ⟨F, rfl, hc1, hr1, hk1⟩; have HC1 := hid hc1; have HR1 := hid hr1; clear hc1 hr1) | (go_at_call 51; refine (letters_any w1 B s p tv t M (some ⟨F, 0, none⟩) F zfa zfb HR1.out HC1.out (by rw [zfa_length]; omega) (by rw [zfb_length]; omega)).mono ?_; intro e w' hd; rw [← HRr.out] at hd; obtain ⟨rfl, hx⟩ : e = .returned (.tuple #[]) ∧ Did B s M (some ⟨F, 0, none⟩) (.ok q9 u9) w1 e w' := ⟨hd.1, hd⟩; have HX := hid (hx.dix (.inr ⟨F, rfl, HC1.out⟩) hk1); clear hd hx))
        first | go_end0 | refine bodyPost_ret (results_none rfl _ _ _) rfl ?_
        exact HX.out
      | no e9 u9 =>
        go_enter Tryd.func34, Tryd.ntmps34
        go_wp2_with (first | (go_at_call 52; refine HFX.out.mono ?_; rintro e w1 ⟨F, rfl, hc1, hr1, hk1⟩; have HC1 := hid hc1; have HR1 := hid hr1; clear hc1 hr1) | (go_at_call 51; refine (letters_any w1 B s p tv t M (some ⟨F, 0, none⟩) F zfa zfb HR1.out HC1.out (by rw [zfa_length]; omega) (by rw [zfb_length]; omega)).mono ?_; intro e w' hd; rw [← HRr.out] at hd; obtain ⟨rfl, hx⟩ : e = gone e9 ∧ Did B s M (some ⟨F, 0, none⟩) (.no e9 u9) w1 e w' := ⟨hd.1, hd⟩; have HX := hid (hx.dix (.inr ⟨F, rfl, HC1.out⟩) hk1); clear hd hx))
        exact ⟨rfl, HX.out⟩
    · have b1 : ((k : Int) == 1) = false := beq_eq_false_iff_ne.2 (by omega)
      by_cases k2 : k = 2
      · subst k2
        have HOW := hid (own_any w B s p tv t M fx HR.out HG.out hB)
        cases ho : owF s p with
        | no e7 =>
          rw [ho] at HOW
          have HK : Hid (bkF M s 2 p t = .no e7 t) := by show _ = _; unfold bkF; rw [if_neg (by omega), if_neg (by omega), if_pos rfl, ho]
          rw [HK.out]
          clear ho
          go_enter Tryd.func34, Tryd.ntmps34
          go_wp2_with (go_at_call 53; refine HOW.out.mono ?_; rintro e w1 ⟨rfl, ⟨p1, hr1⟩, hk1⟩)
          exact ⟨rfl, rfl, ⟨p1, tv, fx, hr1⟩, hk1⟩
        | ok za zb q =>
          rw [ho] at HOW
          have hln := owF_len ho
          have HK : Hid (bkF M s 2 p t = ltF M za zb s (8 * s.size + 1) q t) := by show _ = _; unfold bkF; rw [if_neg (by omega), if_neg (by omega), if_pos rfl, ho]
          rw [HK.out]
          obtain ⟨r, hr⟩ : ∃ r, r = ltF M za zb s (8 * s.size + 1) q t := ⟨_, rfl⟩
          rw [← hr]
          have HRr := hid hr
          clear hr ho
          cases r with
          | ok q9 u9 =>
            go_enter Tryd.func34, Tryd.ntmps34
            go_wp2_with (first | (go_at_call 53; refine HOW.out.mono ?_; rintro e w1 ⟨F, rfl, hc1, hr1, hk1⟩; have HC1 := hid hc1; have HR1 := hid hr1; clear hc1 hr1) | (go_at_call 51; refine (letters_any w1 B s q tv t M fx F za zb HR1.out HC1.out hln.1 hln.2.1).mono ?_; intro e w' hd; rw [← HRr.out] at hd; obtain ⟨rfl, hx⟩ : e = .returned (.tuple #[]) ∧ Did B s M fx (.ok q9 u9) w1 e w' := ⟨hd.1, hd⟩; have HX := hid (hx.dix (HF.out.kp hk1 (.inl rfl)) hk1); clear hd hx))
            first | go_end0 | refine bodyPost_ret (results_none rfl _ _ _) rfl ?_
            exact HX.out
          | no e9 u9 =>
            go_enter Tryd.func34, Tryd.ntmps34
            go_wp2_with (first | (go_at_call 53; refine HOW.out.mono ?_; rintro e w1 ⟨F, rfl, hc1, hr1, hk1⟩; have HC1 := hid hc1; have HR1 := hid hr1; clear hc1 hr1) | (go_at_call 51; refine (letters_any w1 B s q tv t M fx F za zb HR1.out HC1.out hln.1 hln.2.1).mono ?_; intro e w' hd; rw [← HRr.out] at hd; obtain ⟨rfl, hx⟩ : e = gone e9 ∧ Did B s M fx (.no e9 u9) w1 e w' := ⟨hd.1, hd⟩; have HX := hid (hx.dix (HF.out.kp hk1 (.inl rfl)) hk1); clear hd hx))
            exact ⟨rfl, HX.out⟩
      · have b2 : ((k : Int) == 2) = false := beq_eq_false_iff_ne.2 (by omega)
        have HK : Hid (bkF M s k p t = .no 2 t) := by show _ = _; unfold bkF; rw [if_neg k0, if_neg k1, if_neg k2]
        rw [HK.out]
        go_enter Tryd.func34, Tryd.ntmps34
        go_wp2_with (go_at_call 54; refine (give_any _ _).mono ?_; rintro e w' ⟨rfl, rfl⟩)
        exact ⟨rfl, rfl, ⟨p, tv, fx, HR.out⟩, Kp.refl _ _ _⟩

theorem rawF_end {M : Int} {s : ByteArray} {n a : Nat} {t t' : List UInt8} {q : Nat} (h : rawF M s n a t = .ok q t') (ha : a ≤ s.size) : 8 * a ≤ q ∧ q ≤ 8 * s.size := by
  induction n generalizing a t with
  | zero => simp [rawF] at h; omega
  | succ n ih =>
    rw [rawF] at h
    split at h
    · split at h
      · have := ih h (by omega); omega
      · simp at h
    · simp at h
theorem ltF_stop {M : Int} {za zb : List Int} {s : ByteArray} {f p : Nat} {t t' : List UInt8} {q : Nat} (h : ltF M za zb s f p t = .ok q t') (hp : p ≤ 8 * s.size) : p ≤ q ∧ q ≤ 8 * s.size := by
  induction f generalizing p t with
  | zero => simp [ltF] at h; omega
  | succ f ih =>
    rw [ltF] at h
    split at h
    · simp at h
    · rename_i v r hs
      have hv := sym_ok hs
      split at h
      · split at h
        · have := ih h (by omega); omega
        · simp at h
      · split at h
        · injection h with h1 h2; omega
        · split at h
          · split at h
            · split at h
              · rename_i p' t'' ha
                have := agF_end ha
                have := ih h (by omega)
                omega
              · simp at h
            · simp at h
          · simp at h
theorem bkF_end {M : Int} {s : ByteArray} {k p : Nat} {t t' : List UInt8} {q : Nat} (h : bkF M s k p t = .ok q t') (hp : p ≤ 8 * s.size) : p ≤ q ∧ q ≤ 8 * s.size := by
  unfold bkF at h
  split at h
  · unfold asF at h
    split at h
    · split at h
      · have := rawF_end h (by omega); omega
      · simp at h
    · simp at h
  · split at h
    · exact ltF_stop h hp
    · split at h
      · split at h
        · simp at h
        · rename_i za zb r ho
          have := owF_len ho
          have := ltF_stop h (by omega)
          omega
      · simp at h
theorem blF_end {M : Int} {s : ByteArray} {f p : Nat} {t : List UInt8} (h : ¬ p + 3 ≤ 8 * s.size) : blF M s (f + 1) p t = .no 1 t := by rw [blF, if_neg h]
theorem blF_no {M : Int} {s : ByteArray} {f p : Nat} {t t' : List UInt8} {e : Nat} (h : p + 3 ≤ 8 * s.size) (hb : bkF M s (val s (p + 1) 2) (p + 3) t = .no e t') : blF M s (f + 1) p t = .no e t' := by rw [blF, if_pos h, hb]
theorem blF_ok {M : Int} {s : ByteArray} {f p : Nat} {t t' : List UInt8} {q : Nat} (h : p + 3 ≤ 8 * s.size) (hb : bkF M s (val s (p + 1) 2) (p + 3) t = .ok q t') : blF M s (f + 1) p t = if bitAt s p = 1 then .ok q t' else blF M s f q t' := by rw [blF, if_pos h, hb]
theorem val_one (s : ByteArray) (p : Nat) : val s p 1 = bitAt s p := by simp [val]

set_option maxRecDepth 20000 in
set_option maxHeartbeats 1600000 in
theorem blocks_any (w : World) (B : Nat) (s : ByteArray) (M : Int) (fx : Option Addr) (tv : Value) (h : Rd w B s 0 tv [] M fx) (hf : FxOk w fx) (hg : Glo w) (hB : 1 < B) :
    Calls Tryd.prog 14 #[.pointer (some ⟨B, 0, none⟩)] w fun e w' => Dix B s M (inF s M) w e w' := by
  have HR := hid h
  have HF := hid hf
  have HG := hid hg
  clear h hf hg
  obtain ⟨L, hL⟩ : ∃ L, L = inF s M := ⟨_, rfl⟩
  rw [← hL]
  have HL0 := hid hL
  clear hL
  go_enter Tryd.func14, Tryd.ntmps14
  go_wp2
  go_loopw [2] (fun lv wr => ∃ (f q : Nat) (u : List UInt8) (l : Bool), lv = .bool l ∧ q ≤ 8 * s.size ∧ 8 * s.size < f + q ∧ Hid (L = if l = true then .ok q u else blF M s f q u) ∧ Hid (∃ tv fx, Rd wr B s q tv u M fx ∧ FxOk wr fx) ∧ Kp 63 B w wr) (fun _ wr => 8 * s.size + 1 - posOf wr B)
  case atStart => exact ⟨8 * s.size + 1, 0, [], false, rfl, by omega, by omega, HL0, ⟨_, _, HR.out, HF.out⟩, Kp.refl _ _ _⟩
  case round =>
    clear HL0
    obtain ⟨f0, q, u, l, rfl, hq, hf0, hL, hR, hK⟩ := hrel
    obtain ⟨tv1, fx1, hR1, hF1⟩ := hR.out
    have HR1 := hid hR1
    have HF1 := hid hF1
    have HP : Hid (posOf wr B = q) := hR1.pos
    clear hR1 hF1 hR
    cases l
    · have hL' := hL.out
      rw [if_neg (by simp)] at hL'
      have HL := hid hL'
      clear hL hL'
      obtain ⟨f, rfl⟩ : ∃ f, f0 = f + 1 := ⟨f0 - 1, by omega⟩
      by_cases h1 : q + 1 ≤ 8 * s.size
      · obtain ⟨x, hx⟩ : ∃ x, x = val s q 1 := ⟨_, rfl⟩
        have HX := hid hx
        clear hx
        by_cases h3 : q + 1 + 2 ≤ 8 * s.size
        · obtain ⟨k, hk⟩ : ∃ k, k = val s (q + 1) 2 := ⟨_, rfl⟩
          have HKK := hid hk
          clear hk
          have hx1 : (((x : Int) == 1) = decide (bitAt s q = 1)) := by
            have := HX.out
            rw [val_one] at this
            rw [← this]
            by_cases hh : x = 1
            · subst hh; rfl
            · rw [decide_eq_false hh]; exact beq_eq_false_iff_ne.2 (by omega)
          obtain ⟨lb, hlb⟩ : ∃ lb, lb = decide (bitAt s q = 1) := ⟨_, rfl⟩
          rw [← hlb] at hx1
          have HLB := hid hlb
          clear hlb
          obtain ⟨r, hr⟩ : ∃ r, r = bkF M s k (q + 1 + 2) u := ⟨_, rfl⟩
          have HRr := hid hr
          have HG1 := hid (HG.out.kp hK hB)
          clear hr
          cases r with
          | no e7 u7 =>
            have HN : Hid (L = .no e7 u7) := by show _ = _; rw [HL.out, blF_no (by omega) (by rw [← HKK.out]; exact HRr.out.symm)]
            go_wp2_with (first | (go_at_call 33; first | (refine (number_ok _ _ _ _ _ _ _ _ HR2.out 2 (by omega) h3).mono ?_; rintro e w3 ⟨rfl, hr3, hk3⟩; rw [← HKK.out]; have HR3 := hid hr3; clear hr3) | (refine (number_ok _ _ _ _ _ _ _ _ HR1.out 1 (by omega) h1).mono ?_; rintro e w2 ⟨rfl, hr2, hk2⟩; rw [← HX.out]; have HR2 := hid hr2; clear hr2)) | (go_at_call 34; refine (block_any w3 B s _ tv1 u M fx1 k HR3.out ((HF1.out.kp hk2 (.inl rfl)).kp hk3 (.inl rfl)) ((HG1.out.kp hk2 hB).kp hk3 hB) hB).mono ?_; intro e w4 hd; rw [← HRr.out] at hd; obtain ⟨rfl, hd1, hd2⟩ := hd))
            rw [HN.out]
            exact ⟨rfl, rfl, hd1, ((hK.trans hk2).trans hk3).trans hd2⟩
          | ok q7 u7 =>
            have hend := bkF_end HRr.out.symm h3
            have HN : Hid (L = if lb = true then .ok q7 u7 else blF M s f q7 u7) := by
              show _ = _
              rw [HL.out, blF_ok (by omega) (by rw [← HKK.out]; exact HRr.out.symm), HLB.out]
              simp
            go_wp2_with (first | (go_at_call 33; first | (refine (number_ok _ _ _ _ _ _ _ _ HR2.out 2 (by omega) h3).mono ?_; rintro e w3 ⟨rfl, hr3, hk3⟩; rw [← HKK.out]; have HR3 := hid hr3; clear hr3) | (refine (number_ok _ _ _ _ _ _ _ _ HR1.out 1 (by omega) h1).mono ?_; rintro e w2 ⟨rfl, hr2, hk2⟩; rw [← HX.out]; have HR2 := hid hr2; clear hr2)) | (go_at_call 34; refine (block_any w3 B s _ tv1 u M fx1 k HR3.out ((HF1.out.kp hk2 (.inl rfl)).kp hk3 (.inl rfl)) ((HG1.out.kp hk2 hB).kp hk3 hB) hB).mono ?_; intro e w4 hd; rw [← HRr.out] at hd; obtain ⟨rfl, ⟨tv4, fx4, hr4, hf4⟩, hd2⟩ := hd))
            refine ⟨⟨f, q7, u7, lb, rfl, hend.2, by omega, HN, ⟨_, _, hr4, hf4⟩, ((hK.trans hk2).trans hk3).trans hd2⟩, ?_⟩
            rw [hr4.pos, HP.out]
            omega
        · have HN : Hid (L = .no 1 u) := by show _ = _; rw [HL.out, blF_end (by omega)]
          go_wp2_with (go_at_call 33; first | (refine (number_no _ _ _ _ _ _ _ _ HR2.out 2 (by omega) h3).mono ?_; rintro e w3 ⟨rfl, ⟨p3, hr3⟩, hk3⟩) | (refine (number_ok _ _ _ _ _ _ _ _ HR1.out 1 (by omega) h1).mono ?_; rintro e w2 ⟨rfl, hr2, hk2⟩; rw [← HX.out]; have HR2 := hid hr2; clear hr2))
          rw [HN.out]
          exact ⟨rfl, rfl, ⟨_, _, _, hr3⟩, (hK.trans hk2).trans hk3⟩
      · have HN : Hid (L = .no 1 u) := by show _ = _; rw [HL.out, blF_end (by omega)]
        go_wp2_with (go_at_call 33; refine (number_no _ _ _ _ _ _ _ _ HR1.out 1 (by omega) h1).mono ?_; rintro e w3 ⟨rfl, ⟨p3, hr3⟩, hk3⟩)
        rw [HN.out]
        exact ⟨rfl, rfl, ⟨_, _, _, hr3⟩, hK.trans hk3⟩
    · have hL' := hL.out
      rw [if_pos rfl] at hL'
      have HN := hid hL'
      clear hL hL'
      go_wp2
      first | go_end0 | refine bodyPost_ret (results_none rfl _ _ _) rfl ?_
      rw [HN.out]
      exact ⟨rfl, ⟨_, _, HR1.out, HF1.out⟩, hK⟩
end Go.Proofs.YthdmjmnkhlpnnaaDoor
