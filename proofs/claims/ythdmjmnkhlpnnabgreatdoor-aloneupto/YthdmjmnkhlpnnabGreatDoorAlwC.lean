/-
  balekeep.Alone: what comes behind a full Flush tells by itself what is written from then on.
-/
import Derived.Test.YthdmjmnkhlpnnabGreatDoorPstC
import Derived.Test.YthdmjmnkhlpnnabGreatDoorZ34
namespace Go.Proofs.YthdmjmnkhlpnnabGreatDoor
open Go.RowKit Go.Maps

theorem alone_two {x : List UInt8} {R : ByteArray} (h : ∀ M : Int, ((([] ++ R.data.toList : List UInt8).length : Nat) : Int) ≤ M → ou ⟨(([] : List UInt8) ++ x).toArray⟩ M = (⟨(([] : List UInt8) ++ R.data.toList).toArray⟩, (([] : List UInt8) ++ x).length, 0)) : ou ⟨x.toArray⟩ (R.size : Int) = (R, (⟨x.toArray⟩ : ByteArray).size, 0) := by
  have h1 := h R.size (by rw [List.nil_append, szl]; exact Int.le_refl _)
  rw [List.nil_append, List.nil_append, ← ba_self] at h1
  rw [h1, ba_size]
theorem alone_one {x : List UInt8} {S : ByteArray} (h : ∀ M : Int, ((([] ++ S.data.toList : List UInt8).length : Nat) : Int) ≤ M → ou ⟨(([] : List UInt8) ++ x).toArray⟩ M = (⟨(([] : List UInt8) ++ S.data.toList).toArray⟩, 0, 1)) : ou ⟨x.toArray⟩ (S.size : Int) = (S, 0, 1) := by
  have h1 := h S.size (by rw [List.nil_append, szl]; exact Int.le_refl _)
  rw [List.nil_append, List.nil_append, ← ba_self] at h1
  exact h1
theorem alone_len {x : List UInt8} {S : ByteArray} {f : Nat} (hf : f ≤ 3) (hS : S.size ≤ 1048576) (h : (([] : List UInt8) ++ x).length ≤ (([] : List UInt8) ++ S.data.toList).length + 5 * ((([] : List UInt8) ++ S.data.toList).length / 65535) + 10 * f) : (⟨x.toArray⟩ : ByteArray).size ≤ 16777216 := by
  rw [List.nil_append, List.nil_append, szl] at h
  rw [ba_size]
  omega
set_option maxRecDepth 20000 in
set_option maxHeartbeats 3200000 in
theorem alone_walk (w : World) (S R : ByteArray) (lev : Int) (hl : -9223372036854775808 ≤ lev ∧ lev ≤ 9223372036854775807) (hS : S.size + R.size ≤ 1048576) (hg : Gl2 w) :
    Calls Tryz.prog 4 #[.string S, .string R, .int .i64 lev] w fun e w' => e = .returned (.bool true) ∧ Below w.heap.size w w' := by
  have HG := hid hg
  have HPI := hid (pickn_any lev 10 w (by omega) (by omega) hl)
  have hS1 : S.size ≤ 1048576 := by omega
  have hR1 : R.size ≤ 1048576 := by omega
  have hSl := szl S
  have hRl := szl R
  have HSL := hid hSl
  have HRL := hid hRl
  have hSb : (S.toList == S.toList) = true := beq_self_eq_true _
  have hRb : (R.toList == R.toList) = true := beq_self_eq_true _
  clear hg hSl hRl hS
  go_enter Tryz.func4, Tryz.ntmps4
  go_wp2_with (first
    | (go_at_call 11; refine (inf_ou w8 TWO R R.size TWO.size 0 HO2.out HZ2.out (HG6.out.glo.below HB8.out HG6.out.glo.lt)).mono ?_; rintro e w9 ⟨rfl, hb9⟩; have HB9 := hid hb9; clear hb9)
    | (go_at_call 11; refine (inf_ou w7 ONE S S.size 0 1 HO1.out HZ1.out HG6.out.glo).mono ?_; rintro e w8 ⟨rfl, hb8⟩; have HB8 := hid hb8; clear hb8)
    | (go_at_call 10; refine (pctake_any w6 O6 Z _ _ _ _ HP6.out).mono ?_; rintro e w7 ⟨x2, O7, rfl, hp7, hk7, -, hou7⟩; obtain ⟨TWO, hTWO⟩ : ∃ D : ByteArray, D = ⟨x2.toArray⟩ := ⟨_, rfl⟩; rw [← hTWO]; have HO2 : Hid (ou TWO (R.size : Int) = (R, TWO.size, 0)) := (by rw [hTWO]; exact alone_two hou7); have HZ2 : Hid (TWO.size ≤ 16777216) := (by rw [hTWO]; exact alone_len (by omega) hR1 hp7.len); have HG6 := hid (HG5.out.to hk7); have HKT := hid (HK5.out.trans hk7); clear hp7 hk7 hou7 hTWO)
    | (go_at_call 12; refine (psclose_any w5 O5 Z k _ _ _ _ _ HP5.out (by simp [HRL.out]; omega) (by omega) HG4.out).mono ?_; rintro e w6 ⟨rfl, O6, hp6, hk6⟩; have HP6 := hid hp6; have HG5 := hid (HG4.out.to hk6); have HK5 := hid (HK4.out.trans hk6); clear hp6 hk6)
    | (go_at_call 8; refine (pswrite_any w4 O4 Z k _ _ _ _ _ R HP4.out (by omega) (by simp) (by omega) HG3.out).mono ?_; rintro e w5 ⟨rfl, O5, hp5, hk5⟩; have HP5 := hid hp5; have HG4 := hid (HG3.out.to hk5); have HK4 := hid (HK3.out.trans hk5); clear hp5 hk5)
    | (go_at_call 10; refine (pstake_any w3 O3 Z k _ _ _ _ _ HP3.out).mono ?_; rintro e w4 ⟨x1, O4, rfl, hp4, hk4, hou4⟩; obtain ⟨ONE, hONE⟩ : ∃ D : ByteArray, D = ⟨x1.toArray⟩ := ⟨_, rfl⟩; rw [← hONE]; have HO1 : Hid (ou ONE (S.size : Int) = (S, 0, 1)) := (by rw [hONE]; exact alone_one (hou4 rfl).1); have HZ1 : Hid (ONE.size ≤ 16777216) := (by rw [hONE]; exact alone_len (by omega) hS1 hp4.len); have HP4 := hid ((hou4 rfl).2 rfl); have HG3 := hid (HG2.out.to hk4); have HK3 := hid (HK2.out.trans hk4); clear hp4 hk4 hou4 hONE)
    | (go_at_call 9; refine (psflush_any w2 O2 Z k _ _ _ _ _ true HP2.out (by simp [HSL.out]; omega) (by omega) HG1.out).mono ?_; rintro e w3 ⟨rfl, O3, hp3, hk3⟩; have HP3 := hid hp3; have HG2 := hid (HG1.out.to hk3); have HK2 := hid (HK1.out.trans hk3); clear hp3 hk3)
    | (go_at_call 8; refine (pswrite_any w1 O1 Z k _ _ _ _ _ S HP1.out (by omega) (by simp) (by omega) HG0.out).mono ?_; rintro e w2 ⟨rfl, O2, hp2, hk2⟩; have HP2 := hid hp2; have HG1 := hid (HG0.out.to hk2); have HK1 := hid hk2; clear hp2 hk2)
    | (go_at_call 6; refine (psnew_any w k (by omega) HG.out).mono ?_; rintro e w1 ⟨Z, O1, rfl, hp1, hb1, ho1, hg1⟩; have HP1 := hid hp1; have HB1 := hid hb1; have HOO := hid ho1; have HG0 := hid hg1; clear hp1 hb1 ho1 hg1)
    | (go_at_call 7; refine HPI.out.mono ?_; rintro e w' ⟨k, hk, rfl, rfl⟩))
  go_ret
  have h1 := To.under HB1.out HOO.out HKT.out
  exact ⟨rfl, (h1.trans (HB8.out.mono h1.size)).trans (HB9.out.mono (by have := h1.size; have := HB8.out.size; omega))⟩
end Go.Proofs.YthdmjmnkhlpnnabGreatDoor
