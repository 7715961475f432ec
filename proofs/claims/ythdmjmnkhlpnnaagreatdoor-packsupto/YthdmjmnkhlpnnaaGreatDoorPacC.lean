/-
  balelaw.Packs: what is packed is read by the document's own reading, and how long it is.
-/
import Derived.Test.YthdmjmnkhlpnnaaGreatDoorY02
import Derived.Test.YthdmjmnkhlpnnaaGreatDoorRouC
import Derived.Test.YthdmjmnkhlpnnaaGreatDoorY11
namespace Go.Proofs.YthdmjmnkhlpnnaaGreatDoor
open Go.RowKit Go.Maps

set_option maxHeartbeats 800000 in
theorem deflate_bad (w : World) (S : ByteArray) (lev : Int) (h : ¬ (0 ≤ lev ∧ lev ≤ 9)) :
    Calls Tryz.prog 9 #[.string S, .int .i64 lev] w fun e w' => e = .returned (.tuple #[.string .empty, .int .i64 9]) ∧ w = w' := by
  have HIL : Hid (∀ u : World, Calls Tryz.prog 19 #[.int .i64 lev] u fun e w' => e = .returned (.bool false) ∧ u = w') := fun u => (isLevel_any u lev).mono fun e w' ⟨h1, h2⟩ => ⟨by rw [h1]; congr; simp; omega, h2⟩
  go_enter Tryz.func9, Tryz.ntmps9
  go_wp2_with (go_at_call 19; refine (HIL.out _).mono ?_; rintro e w' ⟨rfl, rfl⟩)
  go_ret2
  exact ⟨rfl, rfl⟩
set_option maxHeartbeats 800000 in
theorem frame_bad (w : World) (S : ByteArray) (lev : Int) (h : ¬ (0 ≤ lev ∧ lev ≤ 9)) :
    Calls Tryz.prog 10 #[.string S, .int .i64 lev] w fun e w' => e = .returned (.tuple #[.string .empty, .int .i64 9]) ∧ w = w' := by
  have HD := hid (deflate_bad w S lev h)
  go_enter Tryz.func10, Tryz.ntmps10
  go_wp2_with (go_at_call 9; refine HD.out.mono ?_; rintro e w' ⟨rfl, rfl⟩)
  go_ret2
  exact ⟨rfl, rfl⟩
/-- what is packed is read, by the document's reading -/
theorem rinf_dfl {lv : Nat} {S D : ByteArray} {o : List UInt8} (h : Dfl lv S.data.toList o) (hD : D = ⟨o.toArray⟩) (u : World) (hz : D.size ≤ 4194304) :
    Calls Tryz.prog 12 #[.string D, .int .i64 S.size] u fun e w' => e = .returned (.tuple #[.string S, .int .i64 D.size, .int .i64 0]) ∧ Below u.heap.size u w' := by
  have e1 : D = ⟨(o ++ []).toArray⟩ := ba_ext (by rw [hD, List.append_nil])
  have h2 := h.ou [] S.size (by rw [szl]; omega)
  rw [← e1] at h2
  refine (rinflate_any u D S.size hz).mono fun e w' ⟨h3, h4⟩ => ⟨?_, h4⟩
  rw [h3, show max (S.size : Int) 0 = S.size by omega, h2]
  simp only
  rw [← ba_self S, hD, ba_size]
  rfl
theorem runf_dfl {lv : Nat} {S : ByteArray} {o : List UInt8} (h : Dfl lv S.data.toList o) (F : ByteArray) (hF : F = ⟨#[120, 156]⟩ ++ ⟨o.toArray⟩ ++ ⟨(be4 (adS S.data.toList)).toArray⟩) (u : World) (hz : F.size ≤ 4194304) :
    Calls Tryz.prog 13 #[.string F, .int .i64 S.size] u fun e w' => e = .returned (.tuple #[.string S, .int .i64 0]) ∧ Below u.heap.size u w' := by
  have e1 : F = ⟨(frl S.data.toList o).toArray⟩ := ba_ext (by rw [hF, ba_app, ba_app, ba_of, ba_of, ba_of]; rfl)
  have h2 := h.frame S.size (by rw [szl]; omega)
  rw [← e1] at h2
  refine (runframe_any u F S.size hz).mono fun e w' ⟨h3, h4⟩ => ⟨?_, h4⟩
  rw [h3, show max (S.size : Int) 0 = S.size by omega, h2]
  simp only
  rw [← ba_self S]
  rfl
set_option maxRecDepth 20000 in
set_option maxHeartbeats 800000 in
theorem plainlaw_any (w : World) (n : Nat) (hn : n ≤ 4194304) :
    Calls Tryz.prog 14 #[.int .i64 n] w fun e w' => e = .returned (.int .i64 (plainN n)) ∧ w = w' := by
  obtain ⟨b, hb⟩ : ∃ b, b = (n + 65534) / 65535 := ⟨_, rfl⟩
  have e1 : ((n : Int) + 65534) / 65535 = (b : Int) := by omega
  have hb9 : b ≤ 100 := by omega
  have HB := hid hb
  clear hb
  by_cases h0 : b = 0
  · subst h0
    go_enter Tryz.func14, Tryz.ntmps14
    go_wp2
    go_ret
    refine ⟨?_, rfl⟩
    unfold plainN
    rw [← HB.out]
    simp
  · have d0 : decide ((b : Int) = 0) = false := by simp; omega
    go_enter Tryz.func14, Tryz.ntmps14
    go_wp2
    go_ret
    refine ⟨?_, rfl⟩
    unfold plainN
    rw [← HB.out, if_neg h0]
    simp
theorem alike {t : List UInt8} (h : ∀ i : Nat, i < t.length → t[i]? = t[0]?) (x : UInt8) (hx : x ∈ t) : x = t.headD 0 := by
  obtain ⟨i, hi, rfl⟩ := List.mem_iff_getElem.1 hx
  have h1 := h i hi
  rw [List.getElem?_eq_getElem hi] at h1
  cases t with
  | nil => simp at hi
  | cons a b => simpa using h1
set_option maxRecDepth 20000 in
set_option maxHeartbeats 1600000 in
theorem packs_walk (w : World) (S : ByteArray) (lev : Int) (hS : S.size ≤ 1048576) (hg : Gl2 w) :
    Calls Tryz.prog 3 #[.string S, .int .i64 lev] w fun e w' => e = .returned (.bool true) ∧ Below w.heap.size w w' := by
  by_cases hlv : 0 ≤ lev ∧ lev ≤ 9
  · obtain ⟨lv, rfl⟩ : ∃ lv : Nat, lev = lv := ⟨lev.toNat, by omega⟩
    have h9 : lv ≤ 9 := by omega
    have HG := hid hg
    have HD := hid (deflatef_any w S lv h9 (by omega) hg)
    have HPL : Hid (∀ u : World, Calls Tryz.prog 14 #[.int .i64 S.size] u fun e w' => e = .returned (.int .i64 (plainN S.size)) ∧ u = w') := fun u => plainlaw_any u S.size (by omega)
    clear hg hlv
    go_enter Tryz.func3, Tryz.ntmps3
    go_wp2_with (first
      | (go_at_call 13; refine (runf_dfl HDL2.out.dfl FF HFF.out w3 hFz).mono ?_; rintro e w4 ⟨rfl, hb4⟩; have HB4 := hid hb4; clear hb4)
      | (go_at_call 12; refine (rinf_dfl HDL.out.dfl HDD.out w2 (by omega)).mono ?_; rintro e w3 ⟨rfl, hb3⟩; have HB3 := hid hb3; clear hb3)
      | (go_at_call 10; refine (framef_any w1 S lv (by omega) hS HG1.out).mono ?_; rintro e w2 ⟨o2, rfl, hd2, hb2⟩; obtain ⟨FF, hFF⟩ : ∃ F : ByteArray, F = ⟨#[120, 156]⟩ ++ ⟨o2.toArray⟩ ++ ⟨(be4 (adS S.data.toList)).toArray⟩ := ⟨_, rfl⟩; rw [← hFF]; have hFz : FF.size ≤ 4194304 := (by have := hd2.dfl.len; rw [szl] at this; rw [hFF, ByteArray.size_append, ByteArray.size_append, ba_size, ba_size]; show 2 + o2.length + 4 ≤ _; omega); have hF0 : 0 < FF.size := (by rw [hFF, ByteArray.size_append, ByteArray.size_append, ba_size, ba_size]; show 0 < 2 + o2.length + 4; omega); have hFb : FF[0].toNat = 120 := (by subst hFF; rfl); have HFF := hid hFF; have HDL2 := hid hd2; have HG2 := hid (HG1.out.below hb2); have HB2 := hid hb2; clear hd2 hb2 hFF)
      | (go_at_call 9; refine HD.out.mono ?_; rintro e w1 ⟨o, rfl, hd1, hb1⟩; obtain ⟨D, hDD⟩ : ∃ D : ByteArray, D = ⟨o.toArray⟩ := ⟨_, rfl⟩; rw [← hDD]; have hDz : D.size ≤ 2 * S.size + 65546 := (by have := hd1.dfl.len; rw [szl] at this; rw [hDD, ba_size]; exact this); have HDL := hid hd1; have HDD := hid hDD; have HG1 := hid (HG.out.below hb1); have HB1 := hid hb1; clear hd1 hb1 hDD))
    go_loopw [14] (fun v wr => ∃ j : Nat, j ≤ S.size ∧ v = .int .i64 j ∧ Hid (∀ i : Nat, i < j → S.data.toList[i]? = S.data.toList[0]?) ∧ Hid (Below w.heap.size w wr)) (fun v _ => S.size - (intOf v).toNat)
    case atStart => exact ⟨0, by omega, rfl, fun i hi => by omega, (((HB1.out.trans (HB2.out.mono HB1.out.size)).trans (HB3.out.mono (by have := HB1.out.size; have := HB2.out.size; omega))).trans (HB4.out.mono (by have := HB1.out.size; have := HB2.out.size; have := HB3.out.size; omega)))⟩
    case round =>
      obtain ⟨j, hj, rfl, HA, HBB⟩ := hrel
      by_cases hlt : j < S.size
      · have d1 : decide ((j : Int) < (S.size : Int)) = true := by simp; omega
        have h0 : 0 < S.size := by omega
        have h0i : (0 : Int) < (S.size : Int) := by omega
        by_cases heq : (S[j]'hlt).toNat = (S[0]'h0).toNat
        · have d2 : (((S[j]'hlt).toNat : Int) == ((S[0]'h0).toNat : Int)) = true := by rw [heq]; simp
          go_wp2
          go_quiet (fail)
          go_wp2
          refine ⟨⟨j + 1, by omega, int_eq (by omega), fun i hi => ?_, below_drewN' HBB.out _⟩, by simp [intOf]; omega⟩
          by_cases e : i = j
          · subst e
            have e3 := UInt8.toNat_inj.1 heq
            rw [Array.getElem?_toList, Array.getElem?_toList, Array.getElem?_eq_getElem (by exact hlt), Array.getElem?_eq_getElem (by exact h0)]
            exact congrArg some e3
          · exact HA.out i (by omega)
        · have d2 : (((S[j]'hlt).toNat : Int) == ((S[0]'h0).toNat : Int)) = false := by simp; omega
          have d3 : decide ((j : Int) = (S.size : Int)) = false := by simp; omega
          by_cases hl0 : lv = 0
          · subst hl0
            have hDp : (D.size : Int) = (plainN S.size : Int) := by have q := HDL.out.plain0; rw [szl] at q; rw [HDD.out, ba_size]; omega
            have c1 : decide ((D.size : Int) ≤ (plainN S.size : Int)) = true := by simp; omega
            have c2 : decide ((D.size : Int) = (plainN S.size : Int)) = true := by simp; omega
            go_wp2
            go_quiet (fail)
            go_wp2_with (go_at_call 14; refine (HPL.out _).mono ?_; rintro e w' ⟨rfl, rfl⟩)
            go_ret
            exact ⟨rfl, below_drewN' HBB.out _⟩
          · have hDp : D.size ≤ plainN S.size := by have q := HDL.out.plain; rw [szl] at q; rw [HDD.out, ba_size]; omega
            have c1 : decide ((D.size : Int) ≤ (plainN S.size : Int)) = true := by simp; omega
            have c3 : decide ((0 : Int) < (lv : Int)) = true := by simp; omega
            go_wp2
            go_quiet (fail)
            go_wp2_with (go_at_call 14; refine (HPL.out _).mono ?_; rintro e w' ⟨rfl, rfl⟩)
            go_ret
            exact ⟨rfl, below_drewN' HBB.out _⟩
      · obtain rfl : j = S.size := by omega
        have d1 : decide ((S.size : Int) < (S.size : Int)) = false := by simp
        by_cases hl0 : lv = 0
        · subst hl0
          have hDp : (D.size : Int) = (plainN S.size : Int) := by have q := HDL.out.plain0; rw [szl] at q; rw [HDD.out, ba_size]; omega
          have c1 : decide ((D.size : Int) ≤ (plainN S.size : Int)) = true := by simp; omega
          have c2 : decide ((D.size : Int) = (plainN S.size : Int)) = true := by simp; omega
          go_wp2
          go_quiet (fail)
          go_wp2_with (go_at_call 14; refine (HPL.out _).mono ?_; rintro e w' ⟨rfl, rfl⟩)
          go_ret
          exact ⟨rfl, below_drewN' HBB.out _⟩
        · have hDp : D.size ≤ plainN S.size := by have q := HDL.out.plain; rw [szl] at q; rw [HDD.out, ba_size]; omega
          have c1 : decide ((D.size : Int) ≤ (plainN S.size : Int)) = true := by simp; omega
          have c3 : decide ((0 : Int) < (lv : Int)) = true := by simp; omega
          have hDs : (D.size : Int) ≤ 32 + (S.size : Int) / 100 := by have q := HDL.out.short (by omega) (S.data.toList.headD 0) (alike (by rw [szl]; exact HA.out)); rw [szl] at q; rw [HDD.out, ba_size]; omega
          go_wp2
          go_quiet (fail)
          go_wp2_with (go_at_call 14; refine (HPL.out _).mono ?_; rintro e w' ⟨rfl, rfl⟩)
          go_ret
          exact ⟨rfl, below_drewN' HBB.out _⟩
  · have HB := hid (deflate_bad w S lev hlv)
    have HF := hid (frame_bad w S lev hlv)
    by_cases hn : lev < 0
    · go_enter Tryz.func3, Tryz.ntmps3
      go_wp2_with (first | (go_at_call 9; refine HB.out.mono ?_; rintro e w' ⟨rfl, rfl⟩) | (go_at_call 10; refine HF.out.mono ?_; rintro e w' ⟨rfl, rfl⟩) | (go_at_call 11; refine (num_any _ _).mono ?_; rintro e w' ⟨rfl, rfl⟩))
      go_ret
      exact ⟨rfl, Below.refl _ _⟩
    · have hn9 : 9 < lev := by omega
      go_enter Tryz.func3, Tryz.ntmps3
      go_wp2_with (first | (go_at_call 9; refine HB.out.mono ?_; rintro e w' ⟨rfl, rfl⟩) | (go_at_call 10; refine HF.out.mono ?_; rintro e w' ⟨rfl, rfl⟩) | (go_at_call 11; refine (num_any _ _).mono ?_; rintro e w' ⟨rfl, rfl⟩))
      go_ret
      exact ⟨rfl, Below.refl _ _⟩
end Go.Proofs.YthdmjmnkhlpnnaaGreatDoor
