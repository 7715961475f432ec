/-
  The document's reader: a block as it is; what letters and steps stand for.
-/
import Derived.Test.YthdmjmnkhlpnnaaDoorRsy
import Derived.Test.YthdmjmnkhlpnnaaDoorAsis
namespace Go.Proofs.YthdmjmnkhlpnnaaDoor
open Go.RowKit

/-- what a reading that adds to the text comes to -/
def Rid (B : Nat) (s : ByteArray) (M : Int) (r : Tx) (w : World) (e : Ending) (w' : World) : Prop :=
  e = .returned (.tuple #[]) ∧ (match r with
    | .ok p t => ∃ tv, Rf w' B s p tv t M 0
    | .no k t => ∃ p' tv, Rf w' B s p' tv t M k) ∧ Kp 42 B w w'

theorem val8 (s : ByteArray) (a : Nat) : val s (8 * a) 8 = byt s a := by
  have h : ∀ k, k < 8 → bitAt s (8 * a + k) = byt s a / 2 ^ k % 2 := fun k hk => by
    unfold bitAt
    rw [show (8 * a + k) / 8 = a by omega, show (8 * a + k) % 8 = k by omega]
  have hb := byt_lt s a
  simp only [val]
  rw [h 0 (by omega), h 1 (by omega), h 2 (by omega), h 3 (by omega), h 4 (by omega), h 5 (by omega), h 6 (by omega), h 7 (by omega)]
  generalize byt s a = n at hb ⊢
  omega

theorem put_err (w : World) (B : Nat) (s : ByteArray) (p : Nat) (tv : Value) (t : List UInt8) (M : Int) (E : Nat) (h : Rf w B s p tv t M E) (hE : E ≠ 0) (v : Value) :
    Calls Tryd.prog 36 #[.pointer (some ⟨B, 0, none⟩), v] w fun e w' => e = .returned (.tuple #[]) ∧ Kp 42 B w w' ∧ ∃ n, w' = w.drewN n := by
  obtain ⟨-, -, c2, c3, c4, -⟩ := h.cell
  have hb : ((E : Int) == 0) = false := by rw [beq_eq_false_iff_ne]; omega
  obtain ⟨ao, c, rfl⟩ := h.shape
  clear h hE
  go_enter Tryd.func36, Tryd.ntmps36
  go_wp2
  go_quiet (fail)
  go_wp2
  go_end0
  exact ⟨rfl, (Kp.refl _ _ _).drewN _, _, rfl⟩

set_option maxRecDepth 20000 in
set_option maxHeartbeats 1600000 in
theorem plain_any (w : World) (B : Nat) (s : ByteArray) (p : Nat) (tv : Value) (t : List UInt8) (M : Int) (h : Rf w B s p tv t M 0) :
    Calls Tryd.prog 19 #[.pointer (some ⟨B, 0, none⟩)] w fun e w' => Rid B s M (asF M s p t) w e w' := by
  have HR := hid h
  have hfi := h.fit
  have hsm := h.sml
  clear h
  obtain ⟨P, hP⟩ : ∃ P, P = (p + 7) / 8 * 8 := ⟨_, rfl⟩
  have HP := hid hP
  obtain ⟨L, hL⟩ : ∃ L, L = asF M s p t := ⟨_, rfl⟩
  rw [← hL]
  have HL := hid hL
  clear hP hL
  go_enter Tryd.func19, Tryd.ntmps19
  go_wp2
  go_loopw [6] (fun _ wr => ∃ q : Nat, p ≤ q ∧ q ≤ P ∧ Hid (Rf wr B s q tv t M 0) ∧ Kp 42 B w wr) (fun _ wr => P - posR wr B)
  case atStart => exact ⟨p, by omega, by have := HP.out; omega, HR, Kp.refl _ _ _⟩
  case round =>
    obtain ⟨q, hpq, hqP, hr, hK⟩ := hrel
    obtain ⟨-, c1, -⟩ := hr.out.cell
    have f1 := hr.out.free 1
    have hqf := hr.out.fit
    have HPO := hid hr.out.pos
    obtain ⟨y, hy⟩ : ∃ y, y = q % 8 := ⟨_, rfl⟩
    have q2 : (q : Int) % 8 = (y : Int) := by omega
    by_cases hlt : q < P
    · have hy0 : y ≠ 0 := by have := HP.out; omega
      have hb : ((y : Int) != 0) = true := by rw [bne_iff_ne]; omega
      have hq8 : q + 1 ≤ 8 * s.size := by have := HP.out; omega
      clear hy
      go_wp2
      have R1 := hr.out.setAt (q + 1) (by omega) hq8
      rw [show ((q + 1 : Nat) : Int) = (q : Int) + 1 by omega] at R1
      refine ⟨⟨q + 1, by omega, by omega, R1, hK.setRf hr.out _ _⟩, ?_⟩
      rw [show posR _ B = q + 1 from R1.pos, HPO.out]
      omega
    · obtain rfl : q = P := by omega
      have hy0 : y = 0 := by have := HP.out; omega
      have q3 : (q : Int) % 8 = 0 := by omega
      have hb : ((0 : Int) != 0) = false := by decide
      clear hy q2 hy0 HPO HR
      by_cases h16 : q + 16 ≤ 8 * s.size
      · obtain ⟨x, hx⟩ : ∃ x, x = val s q 16 := ⟨_, rfl⟩
        have hxl : x < 65536 := by have := val_lt s q 16; rw [hx]; exact this
        have HX := hid hx
        clear hx
        by_cases h32 : q + 16 + 16 ≤ 8 * s.size
        · obtain ⟨y, hy⟩ : ∃ y, y = val s (q + 16) 16 := ⟨_, rfl⟩
          have hyl : y < 65536 := by have := val_lt s (q + 16) 16; rw [hy]; exact this
          have HY := hid hy
          clear hy
          by_cases heq : (y : Int) = 65535 - (x : Int)
          · have hbb : ((x : Int) != 65535 - (y : Int)) = false := by
              have : (x : Int) = 65535 - (y : Int) := by omega
              simp [this]
            obtain ⟨A, hA⟩ : ∃ A, A = (p + 7) / 8 + 4 := ⟨_, rfl⟩
            have hPA : q + 16 + 16 = 8 * A := by have := HP.out; omega
            have HRW : Hid (L = rawF M s x A t) := by
              show _ = _
              rw [HL.out, asF_ok (by rw [← HP.out]; omega) (by rw [← HP.out, ← HX.out, ← HY.out]; exact heq), ← HP.out, ← HX.out, ← hA]
            have HPA := hid hPA
            clear hA hPA heq
            go_wp2_with (go_at_call 18; first | (refine (rnum_ok _ _ _ _ _ _ _ HR2.out 16 (by omega) h32).mono ?_; rintro e w3 ⟨rfl, hr3, hk3⟩; rw [← HY.out]; have e4 := hr3.cell.2.2.2.2.1; have HR3 := hid hr3; clear hr3) | (refine (rnum_ok _ _ _ _ _ _ _ hr.out 16 (by omega) h16).mono ?_; rintro e w2 ⟨rfl, hr2, hk2⟩; rw [← HX.out]; have HR2 := hid hr2; clear hr2))
            have KK : Kp 42 B w w3 := (hK.trans hk2).trans hk3
            have HR3' : Hid (Rf w3 B s (8 * A) tv t M 0) := by rw [← HPA.out]; exact HR3
            clear e4 hk2 hk3 HR2 HR3
            go_loopw [4, 5] (fun iv _ wi => ∃ (i q2 E : Nat) (u : List UInt8), i ≤ x ∧ iv = .int .i64 i ∧ Hid (∃ tv', Rf wi B s q2 tv' u M E) ∧ (E = 0 ∧ q2 = 8 * (A + i) ∧ Hid (L = rawF M s (x - i) (A + i) u) ∨ E ≠ 0 ∧ Hid (L = .no E u)) ∧ Kp 42 B w wi) (fun iv _ wi => x - (intOf iv).toNat)
            case atStart => exact ⟨0, _, 0, t, by omega, rfl, ⟨_, HR3'.out⟩, .inl ⟨rfl, rfl, HRW⟩, KK⟩
            case round =>
              clear HR3' KK HRW c1 f1 hr
              obtain ⟨i, q2, E, u, hi, rfl, hR, hor, hKi⟩ := hrel
              obtain ⟨tv', hR⟩ := hR.out
              have HRr := hid hR
              have c4 := hR.cell.2.2.2.2.1
              have hrom := hR.rom
              clear hR
              rcases hor with ⟨rfl, hq2, hL⟩ | ⟨hE, hL⟩
              · by_cases hlt : i < x
                · have HF : Hid (x - i = (x - (i + 1)) + 1) := by show _ = _; omega
                  by_cases hby : A + i < s.size
                  · obtain ⟨z, hz⟩ : ∃ z, z = byt s (A + i) := ⟨_, rfl⟩
                    have hz8 : z < 256 := by rw [hz]; exact byt_lt s _
                    have HV : Hid (val s q2 8 = z) := by show _ = _; rw [hq2, val8, hz]
                    have hu : (byu s (A + i)).toNat = z := by rw [hz]; rfl
                    have HU := hid hu
                    have HQ2 := hid hq2
                    clear hz hu hq2
                    by_cases hM : (u.length : Int) < M
                    · have HRW : Hid (L = rawF M s (x - (i + 1)) (A + (i + 1)) (u ++ [byu s (A + i)])) := by show _ = _; rw [hL.out, HF.out, rawF, if_pos hby, if_pos hM]; rfl
                      go_wp2_with (first | (go_at_call 18; refine (rnum_ok _ _ _ _ _ _ _ HRr.out 8 (by omega) (by have := HQ2.out; omega)).mono ?_; rintro e w4 ⟨rfl, hr4, hk4⟩; rw [HV.out]; have HR4 := hid hr4; clear hr4) | (go_at_call 36; rw [← HU.out]; refine (put_ok _ _ _ _ _ _ _ _ HR4.out hM (by omega)).mono ?_; rintro e w5 ⟨rfl, hr5, hk5⟩))
                      exact ⟨⟨i + 1, _, 0, _, by omega, by go_num, hr5, .inl ⟨rfl, by have := HQ2.out; omega, HRW⟩, (hKi.trans hk4).trans hk5⟩, by simp [intOf]; omega⟩
                    · have HRW : Hid (L = .no 6 u) := by show _ = _; rw [hL.out, HF.out, rawF, if_pos hby, if_neg hM]
                      go_wp2_with (first | (go_at_call 18; refine (rnum_ok _ _ _ _ _ _ _ HRr.out 8 (by omega) (by have := HQ2.out; omega)).mono ?_; rintro e w4 ⟨rfl, hr4, hk4⟩; rw [HV.out]; have HR4 := hid hr4; clear hr4) | (go_at_call 36; rw [← HU.out]; refine (put_no _ _ _ _ _ _ _ _ HR4.out (by omega)).mono ?_; rintro e w5 ⟨rfl, hr5, hk5⟩))
                      exact ⟨⟨i + 1, _, 6, _, by omega, by go_num, ⟨_, hr5⟩, .inr ⟨by omega, HRW⟩, (hKi.trans hk4).trans hk5⟩, by simp [intOf]; omega⟩
                  · have HRW : Hid (L = .no 1 u) := by show _ = _; rw [hL.out, HF.out, rawF, if_neg hby]
                    go_wp2_with (first | (go_at_call 18; refine (rnum_no _ _ _ _ _ _ _ HRr.out 8 (by omega) (by omega)).mono ?_; rintro e w4 ⟨v4, p4, hv4, rfl, hr4, hk4⟩; have HR4 := hid hr4; clear hr4) | (go_at_call 36; refine (put_err _ _ _ _ _ _ _ _ HR4.out (by omega) _).mono ?_; rintro e w5 ⟨rfl, hk5, hr5⟩))
                    obtain ⟨nd, hr5⟩ := hr5
                    exact ⟨⟨i + 1, p4, 1, u, by omega, by go_num, ⟨tv', by rw [hr5]; exact HR4.out.drewN _⟩, .inr ⟨by omega, HRW⟩, (hKi.trans hk4).trans hk5⟩, by simp [intOf]; omega⟩
                · obtain rfl : i = x := by omega
                  go_wp2
                  go_end0
                  refine ⟨rfl, ?_, hKi⟩
                  have hL2 := hL.out
                  rw [Nat.sub_self] at hL2
                  rw [hL2]
                  show ∃ tv2, Rf _ _ _ (8 * (A + i)) _ _ _ _
                  rw [← hq2]
                  exact ⟨_, HRr.out⟩
              · have hb0 : ((E : Int) == 0) = false := by rw [beq_eq_false_iff_ne]; omega
                by_cases hlt : i < x
                · go_wp2
                  go_end0
                  refine ⟨rfl, ?_, hKi⟩
                  rw [hL.out]
                  exact ⟨_, _, HRr.out⟩
                · obtain rfl : i = x := by omega
                  go_wp2
                  go_end0
                  refine ⟨rfl, ?_, hKi⟩
                  rw [hL.out]
                  exact ⟨_, _, HRr.out⟩
          · have hbb : ((x : Int) != 65535 - (y : Int)) = true := by
              rw [bne_iff_ne]; omega
            have HRW : Hid (L = .no 2 t) := by
              show _ = _
              rw [HL.out, asF_bad (by rw [← HP.out]; omega) (by rw [← HP.out, ← HX.out, ← HY.out]; exact heq)]
            clear heq
            go_wp2_with (first | (go_at_call 18; first | (refine (rnum_ok _ _ _ _ _ _ _ HR2.out 16 (by omega) h32).mono ?_; rintro e w3 ⟨rfl, hr3, hk3⟩; rw [← HY.out]; have e4 := hr3.cell.2.2.2.2.1; have HR3 := hid hr3; clear hr3) | (refine (rnum_ok _ _ _ _ _ _ _ hr.out 16 (by omega) h16).mono ?_; rintro e w2 ⟨rfl, hr2, hk2⟩; rw [← HX.out]; have HR2 := hid hr2; clear hr2)) | (go_at_call 23; refine (stop_any _ _ _ _ _ _ _ 2 HR3.out).mono ?_; rintro e w4 ⟨rfl, hr4, hk4⟩; have HR4 := hid hr4; clear hr4 e4))
            have KK : Kp 42 B w w4 := ((hK.trans hk2).trans hk3).trans hk4
            clear hk2 hk3 hk4 HR2 HR3 c1 f1
            go_loopw [4, 5] (fun iv _ wi => iv = .int .i64 0 ∧ Hid (∃ p' tv', Rf wi B s p' tv' t M 2) ∧ Kp 42 B w wi) (fun _ _ _ => 0)
            case atStart => exact ⟨rfl, ⟨_, _, HR4.out⟩, KK⟩
            case round =>
              clear HR4 KK
              obtain ⟨rfl, hR, hKi⟩ := hrel
              obtain ⟨p4, tv4, hR⟩ := hR.out
              have HRr := hid hR
              have c4 := hR.cell.2.2.2.2.1
              clear hR
              by_cases hlt : 0 < x
              · go_wp2
                go_end0
                refine ⟨rfl, ?_, hKi⟩
                rw [HRW.out]
                exact ⟨_, _, HRr.out⟩
              · obtain rfl : x = 0 := by omega
                go_wp2
                go_end0
                refine ⟨rfl, ?_, hKi⟩
                rw [HRW.out]
                exact ⟨_, _, HRr.out⟩
        · have HRW : Hid (L = .no 1 t) := by
            show _ = _
            rw [HL.out, asF_end (by rw [← HP.out]; omega)]
          go_wp2_with (first | (go_at_call 18; first | (refine (rnum_no _ _ _ _ _ _ _ HR2.out 16 (by omega) h32).mono ?_; rintro e w3 ⟨v3, p3, hv3, rfl, hr3, hk3⟩; have e4 := hr3.cell.2.2.2.2.1; have HR3 := hid hr3; clear hr3) | (refine (rnum_ok _ _ _ _ _ _ _ hr.out 16 (by omega) h16).mono ?_; rintro e w2 ⟨rfl, hr2, hk2⟩; rw [← HX.out]; have HR2 := hid hr2; clear hr2)))
          have KK : Kp 42 B w w3 := (hK.trans hk2).trans hk3
          clear hk2 hk3 HR2 e4 c1 f1
          go_loopw [4, 5] (fun iv _ wi => iv = .int .i64 0 ∧ Hid (∃ p' tv', Rf wi B s p' tv' t M 1) ∧ Kp 42 B w wi) (fun _ _ _ => 0)
          case atStart => exact ⟨rfl, ⟨_, _, HR3.out⟩, KK⟩
          case round =>
            clear HR3 KK
            obtain ⟨rfl, hR, hKi⟩ := hrel
            obtain ⟨p4, tv4, hR⟩ := hR.out
            have HRr := hid hR
            have c4 := hR.cell.2.2.2.2.1
            clear hR
            by_cases hlt : 0 < x
            · go_wp2
              go_end0
              refine ⟨rfl, ?_, hKi⟩
              rw [HRW.out]
              exact ⟨_, _, HRr.out⟩
            · obtain rfl : x = 0 := by omega
              go_wp2
              go_end0
              refine ⟨rfl, ?_, hKi⟩
              rw [HRW.out]
              exact ⟨_, _, HRr.out⟩
      · have HRW : Hid (L = .no 1 t) := by
          show _ = _
          rw [HL.out, asF_end (by rw [← HP.out]; omega)]
        go_wp2_with (first | (go_at_call 18; first | (refine (rnum_err _ _ _ _ _ _ _ _ HR2.out (by omega) 16 (by omega)).mono ?_; rintro e w3 ⟨rfl, rfl⟩; have e4 := HR2.out.cell.2.2.2.2.1) | (refine (rnum_no _ _ _ _ _ _ _ hr.out 16 (by omega) h16).mono ?_; rintro e w2 ⟨x, p2, hv2, rfl, hr2, hk2⟩; have HR2 := hid hr2; clear hr2)))
        have KK : Kp 42 B w w2 := hK.trans hk2
        clear hk2 e4 c1 f1
        go_loopw [4, 5] (fun iv _ wi => iv = .int .i64 0 ∧ Hid (∃ p' tv', Rf wi B s p' tv' t M 1) ∧ Kp 42 B w wi) (fun _ _ _ => 0)
        case atStart => exact ⟨rfl, ⟨_, _, HR2.out⟩, KK⟩
        case round =>
          clear HR2 KK
          obtain ⟨rfl, hR, hKi⟩ := hrel
          obtain ⟨p4, tv4, hR⟩ := hR.out
          have HRr := hid hR
          have c4 := hR.cell.2.2.2.2.1
          clear hR
          by_cases hlt : 0 < x
          · go_wp2
            go_end0
            refine ⟨rfl, ?_, hKi⟩
            rw [HRW.out]
            exact ⟨_, _, HRr.out⟩
          · obtain rfl : x = 0 := by omega
            go_wp2
            go_end0
            refine ⟨rfl, ?_, hKi⟩
            rw [HRW.out]
            exact ⟨_, _, HRr.out⟩
end Go.Proofs.YthdmjmnkhlpnnaaDoor
