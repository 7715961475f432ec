/-
  A block as it is: the program's Reader.asItIs.
-/
import Derived.Test.YthdmjmnkhlpnnaaDoorAgain
namespace Go.Proofs.YthdmjmnkhlpnnaaDoor
open Go.RowKit

theorem asF_end {M : Int} {s : ByteArray} {p : Nat} {t : List UInt8} (h : ¬ (p + 7) / 8 * 8 + 32 ≤ 8 * s.size) : asF M s p t = .no 1 t := by unfold asF; rw [if_neg h]
theorem asF_bad {M : Int} {s : ByteArray} {p : Nat} {t : List UInt8} (h : (p + 7) / 8 * 8 + 32 ≤ 8 * s.size) (h2 : ¬ (val s ((p + 7) / 8 * 8 + 16) 16 : Int) = 65535 - (val s ((p + 7) / 8 * 8) 16 : Int)) : asF M s p t = .no 2 t := by unfold asF; rw [if_pos h, if_neg h2]
theorem asF_ok {M : Int} {s : ByteArray} {p : Nat} {t : List UInt8} (h : (p + 7) / 8 * 8 + 32 ≤ 8 * s.size) (h2 : (val s ((p + 7) / 8 * 8 + 16) 16 : Int) = 65535 - (val s ((p + 7) / 8 * 8) 16 : Int)) : asF M s p t = rawF M s (val s ((p + 7) / 8 * 8) 16) ((p + 7) / 8 + 4) t := by unfold asF; rw [if_pos h, if_pos h2]

set_option maxRecDepth 20000 in
set_option maxHeartbeats 1600000 in
theorem asItIs_any (w : World) (B : Nat) (s : ByteArray) (p : Nat) (tv : Value) (t : List UInt8) (M : Int) (fx : Option Addr) (h : Rd w B s p tv t M fx) :
    Calls Tryd.prog 50 #[.pointer (some ⟨B, 0, none⟩)] w fun e w' => Did B s M fx (asF M s p t) w e w' := by
  have HR := hid h
  have hrm := h.rom
  clear h
  obtain ⟨P, hP⟩ : ∃ P, P = (p + 7) / 8 * 8 := ⟨_, rfl⟩
  have HP := hid hP
  by_cases h16 : P + 16 ≤ 8 * s.size
  · by_cases h32 : P + 16 + 16 ≤ 8 * s.size
    · obtain ⟨x, hx⟩ : ∃ x, x = val s P 16 := ⟨_, rfl⟩
      obtain ⟨y, hy⟩ : ∃ y, y = val s (P + 16) 16 := ⟨_, rfl⟩
      have hxl : x < 65536 := by have := val_lt s P 16; rw [hx]; exact this
      have hyl : y < 65536 := by have := val_lt s (P + 16) 16; rw [hy]; exact this
      have HX := hid hx
      have HY := hid hy
      by_cases heq : (y : Int) = 65535 - (x : Int)
      · have hb : ((y : Int) != 65535 - (x : Int)) = false := by simp [heq]
        obtain ⟨A, hA⟩ : ∃ A, A = (p + 7) / 8 + 4 := ⟨_, rfl⟩
        have hPA : P + 16 + 16 = 8 * A := by omega
        have HPA := hid hPA
        rw [asF_ok (by omega) (by rw [← hP, ← hx, ← hy]; exact heq), ← hP, ← hx, ← hA]
        have HEQ := hid heq
        clear hP hx hy heq hA hPA
        go_enter Tryd.func50, Tryd.ntmps50
        go_wp2_with (first | (go_at_call 68; refine (endByte_any _ _ _ _ _ _ _ _ HR.out).mono ?_; rintro e w1 ⟨rfl, hr1, hk1⟩; rw [← HP.out] at hr1; have HR1 := hid hr1; clear hr1) | (go_at_call 33; first | (refine (number_ok _ _ _ _ _ _ _ _ HR2.out 16 (by omega) h32).mono ?_; rintro e w3 ⟨rfl, hr3, hk3⟩; rw [← HY.out]; have HR3 := hid hr3; clear hr3) | (refine (number_ok _ _ _ _ _ _ _ _ HR1.out 16 (by omega) h16).mono ?_; rintro e w2 ⟨rfl, hr2, hk2⟩; rw [← HX.out]; have HR2 := hid hr2; clear hr2)))
        have hk : Kp 63 B w w3 := (hk1.trans hk2).trans hk3
        have HR3' : Hid (Rd w3 B s (8 * A) tv t M fx) := by rw [← HPA.out]; exact HR3
        clear HR1 HR2 HR3 hk1 hk2 hk3
        go_loopw [20] (fun i wr => ∃ (k : Nat) (u : List UInt8), k ≤ x ∧ i = .int .i64 k ∧ Hid (rawF M s x A t = rawF M s (x - k) (A + k) u) ∧ Hid (∃ tv', Rd wr B s (8 * (A + k)) tv' u M fx) ∧ Kp 63 B w wr) (fun i _ => x - (intOf i).toNat)
        case atStart => exact ⟨0, t, by omega, rfl, rfl, ⟨_, HR3'.out⟩, hk⟩
        case round =>
          clear HR3' hk
          obtain ⟨k, u, hk, rfl, hcp, hR, hK⟩ := hrel
          obtain ⟨tv', hR⟩ := hR.out
          by_cases hlt : k < x
          · have HF : Hid (x - k = (x - (k + 1)) + 1) := by show _ = _; omega
            have HRr := hid hR
            have hrom := hR.rom
            clear hR
            by_cases hby : A + k < s.size
            · by_cases hM : (u.length : Int) < M
              · have HRW : Hid (rawF M s x A t = rawF M s (x - (k + 1)) (A + (k + 1)) (u ++ [byu s (A + k)])) := by show _ = _; rw [hcp.out, HF.out, rawF, if_pos hby, if_pos hM]; rfl
                go_wp2_with (first | (go_at_call 70; refine (nextByte_ok _ _ _ _ _ _ _ _ HRr.out hby).mono ?_; rintro e w4 ⟨rfl, hr4, hk4⟩; have HR4 := hid hr4; clear hr4) | (go_at_call 69; refine (add_ok _ _ _ _ _ _ _ _ _ HR4.out hM (by omega)).mono ?_; rintro e w5 ⟨rfl, hr5, hk5⟩))
                exact ⟨⟨k + 1, u ++ [byu s (A + k)], by omega, by go_num, HRW, hr5, (hK.trans hk4).trans hk5⟩, by simp [intOf]; omega⟩
              · have HRW : Hid (rawF M s x A t = .no 6 u) := by show _ = _; rw [hcp.out, HF.out, rawF, if_pos hby, if_neg hM]
                have HLE : Hid ((u.length : Int) = M) := by show _ = _; have := HRr.out.len; omega
                go_wp2_with (first | (go_at_call 70; refine (nextByte_ok _ _ _ _ _ _ _ _ HRr.out hby).mono ?_; rintro e w4 ⟨rfl, hr4, hk4⟩; have HR4 := hid hr4; clear hr4) | (go_at_call 69; refine (add_no _ _ _ _ _ _ _ _ _ HR4.out HLE.out).mono ?_; rintro e w5 ⟨rfl, ⟨p5, hr5⟩, hk5⟩))
                rw [HRW.out]
                exact ⟨rfl, rfl, ⟨p5, _, hr5⟩, (hK.trans hk4).trans hk5⟩
            · have HRW : Hid (rawF M s x A t = .no 1 u) := by show _ = _; rw [hcp.out, HF.out, rawF, if_neg hby]
              go_wp2_with (first | (go_at_call 70; refine (nextByte_no _ _ _ _ _ _ _ _ HRr.out hby).mono ?_; rintro e w4 ⟨rfl, ⟨p4, hr4⟩, hk4⟩))
              rw [HRW.out]
              exact ⟨rfl, rfl, ⟨p4, _, hr4⟩, hK.trans hk4⟩
          · obtain rfl : k = x := by omega
            go_wp2
            go_end0
            rw [show rawF M s k A t = .ok (8 * (A + k)) u by rw [hcp.out, Nat.sub_self]; rfl]
            exact ⟨rfl, ⟨_, hR⟩, hK⟩
      · have hb : ((y : Int) != 65535 - (x : Int)) = true := by simp [heq]
        rw [asF_bad (by omega) (by rw [← hP, ← hx, ← hy]; exact heq)]
        clear hP hx hy heq
        go_enter Tryd.func50, Tryd.ntmps50
        go_wp2_with (first | (go_at_call 68; refine (endByte_any _ _ _ _ _ _ _ _ HR.out).mono ?_; rintro e w1 ⟨rfl, hr1, hk1⟩; rw [← HP.out] at hr1; have HR1 := hid hr1; clear hr1) | (go_at_call 33; first | (refine (number_ok _ _ _ _ _ _ _ _ HR2.out 16 (by omega) h32).mono ?_; rintro e w3 ⟨rfl, hr3, hk3⟩; rw [← HY.out]; have HR3 := hid hr3; clear hr3) | (refine (number_ok _ _ _ _ _ _ _ _ HR1.out 16 (by omega) h16).mono ?_; rintro e w2 ⟨rfl, hr2, hk2⟩; rw [← HX.out]; have HR2 := hid hr2; clear hr2)) | (go_at_call 54; refine (give_any _ _).mono ?_; rintro e w' ⟨rfl, rfl⟩))
        exact ⟨rfl, rfl, ⟨_, _, HR3.out⟩, (hk1.trans hk2).trans hk3⟩
    · rw [asF_end (by omega)]
      clear hP
      go_enter Tryd.func50, Tryd.ntmps50
      go_wp2_with (first | (go_at_call 68; refine (endByte_any _ _ _ _ _ _ _ _ HR.out).mono ?_; rintro e w1 ⟨rfl, hr1, hk1⟩; rw [← HP.out] at hr1; have HR1 := hid hr1; clear hr1) | (go_at_call 33; first | (refine (number_no _ _ _ _ _ _ _ _ HR2.out 16 (by omega) h32).mono ?_; rintro e w3 ⟨rfl, ⟨p3, hr3⟩, hk3⟩) | (refine (number_ok _ _ _ _ _ _ _ _ HR1.out 16 (by omega) h16).mono ?_; rintro e w2 ⟨rfl, hr2, hk2⟩; have HR2 := hid hr2; clear hr2)))
      exact ⟨rfl, rfl, ⟨_, _, hr3⟩, (hk1.trans hk2).trans hk3⟩
  · rw [asF_end (by omega)]
    clear hP
    go_enter Tryd.func50, Tryd.ntmps50
    go_wp2_with (first | (go_at_call 68; refine (endByte_any _ _ _ _ _ _ _ _ HR.out).mono ?_; rintro e w1 ⟨rfl, hr1, hk1⟩; rw [← HP.out] at hr1; have HR1 := hid hr1; clear hr1) | (go_at_call 33; refine (number_no _ _ _ _ _ _ _ _ HR1.out 16 (by omega) h16).mono ?_; rintro e w3 ⟨rfl, ⟨p3, hr3⟩, hk3⟩))
    exact ⟨rfl, rfl, ⟨_, _, hr3⟩, hk1.trans hk3⟩
end Go.Proofs.YthdmjmnkhlpnnaaDoor
