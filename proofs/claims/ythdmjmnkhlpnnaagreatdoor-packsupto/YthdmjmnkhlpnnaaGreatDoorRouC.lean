/-
  balekeep.Round: any text, at any level, is itself again.
-/
import Derived.Test.YthdmjmnkhlpnnaaGreatDoorY02
import Derived.Test.YthdmjmnkhlpnnaaGreatDoorZ34
namespace Go.Proofs.YthdmjmnkhlpnnaaGreatDoor
open Go.RowKit Go.Maps

theorem ba_some {D : ByteArray} (h : 0 < D.size) : D.toList.isEmpty = false := by
  have e := szl D
  rw [← ByteArray.toList_eq] at e
  cases hd : D.toList with
  | nil => rw [hd] at e; simp at e; omega
  | cons a b => rfl
/-- what is packed is unpacked, whatever comes behind -/
theorem inf_dfl {lv : Nat} {S D : ByteArray} {o : List UInt8} (h : Dfl lv S.data.toList o) (hD : D = ⟨o.toArray⟩) (X : ByteArray) (u : World) (hg : Glo u) (hz : D.size + X.size ≤ 4194304) :
    Calls Tryz.prog 16 #[.string (D ++ X), .int .i64 S.size] u fun e w' => e = .returned (.tuple #[.string S, .int .i64 D.size, .int .i64 0]) ∧ Below u.heap.size u w' := by
  have e1 : D ++ X = ⟨(o ++ X.data.toList).toArray⟩ := ba_ext (by rw [ba_app, ba_of, hD, ba_of])
  have hz2 : (D ++ X).size ≤ 4194304 := by rw [ByteArray.size_append]; omega
  have h2 := h.ou X.data.toList S.size (by rw [szl]; omega)
  rw [← e1] at h2
  refine (inflate_any u (D ++ X) S.size hz2 hg (cell_in (hg 0 (by omega)))).mono fun e w' ⟨h3, h4⟩ => ⟨?_, h4⟩
  rw [h3, show max (S.size : Int) 0 = S.size by omega, h2]
  simp only
  rw [← ba_self S, hD, ba_size]
  rfl
/-- and so is what is framed -/
theorem unf_dfl {lv : Nat} {S : ByteArray} {o : List UInt8} (h : Dfl lv S.data.toList o) (F : ByteArray) (hF : F = ⟨#[120, 156]⟩ ++ ⟨o.toArray⟩ ++ ⟨(be4 (adS S.data.toList)).toArray⟩) (u : World) (hg : Glo u) (hz : F.size ≤ 4194304) :
    Calls Tryz.prog 17 #[.string F, .int .i64 S.size] u fun e w' => e = .returned (.tuple #[.string S, .int .i64 0]) ∧ Below u.heap.size u w' := by
  have e1 : F = ⟨(frl S.data.toList o).toArray⟩ := ba_ext (by rw [hF, ba_app, ba_app, ba_of, ba_of, ba_of]; rfl)
  have h2 := h.frame S.size (by rw [szl]; omega)
  rw [← e1] at h2
  refine (unframe_any u F S.size hz hg (cell_in (hg 0 (by omega)))).mono fun e w' ⟨h3, h4⟩ => ⟨?_, h4⟩
  rw [h3, show max (S.size : Int) 0 = S.size by omega, h2]
  simp only
  rw [← ba_self S]
  rfl
set_option maxRecDepth 20000 in
set_option maxHeartbeats 1600000 in
theorem round_walk (w : World) (S : ByteArray) (lev : Int) (X : ByteArray) (hl : -9223372036854775808 ≤ lev ∧ lev ≤ 9223372036854775807) (hS : S.size + X.size ≤ 1048576) (hg : Gl2 w) :
    Calls Tryz.prog 4 #[.string S, .int .i64 lev, .string X] w fun e w' => e = .returned (.bool true) ∧ Below w.heap.size w w' := by
  have HG := hid hg
  have HPI := hid (pickn_any lev 10 w (by omega) (by omega) hl)
  have hS1 : S.size ≤ 1048576 := by omega
  have hX1 : X.size ≤ 1048576 := by omega
  clear hg
  go_enter Tryz.func4, Tryz.ntmps4
  go_upto_region 6 with (first
    | (go_at_call 17; refine (unf_dfl HDL2.out FF HFF.out w3 (HG2.out.below HB3.out).ord hFz).mono ?_; rintro e w4 ⟨rfl, hb4⟩; have HB4 := hid hb4; clear hb4)
    | (go_at_call 16; refine (inf_dfl HDL.out HDD.out X w2 HG2.out.ord (by omega)).mono ?_; rintro e w3 ⟨rfl, hb3⟩; have HB3 := hid hb3; clear hb3)
    | (go_at_call 10; refine (frame_any w1 S k (by omega) hS1 HG1.out).mono ?_; rintro e w2 ⟨o2, rfl, hd2, hb2⟩; obtain ⟨FF, hFF⟩ : ∃ F : ByteArray, F = ⟨#[120, 156]⟩ ++ ⟨o2.toArray⟩ ++ ⟨(be4 (adS S.data.toList)).toArray⟩ := ⟨_, rfl⟩; rw [← hFF]; have hFz : FF.size ≤ 4194304 := (by have := hd2.len; rw [szl] at this; rw [hFF, ByteArray.size_append, ByteArray.size_append, ba_size, ba_size]; show 2 + o2.length + 4 ≤ _; omega); have HFF := hid hFF; have HDL2 := hid hd2; have HG2 := hid (HG1.out.below hb2); have HB2 := hid hb2; clear hd2 hb2 hFF)
    | (go_at_call 9; refine (deflate_any w S k (by omega) (by omega) HG.out).mono ?_; rintro e w1 ⟨o, rfl, hd1, hb1⟩; obtain ⟨D, hDD⟩ : ∃ D : ByteArray, D = ⟨o.toArray⟩ := ⟨_, rfl⟩; rw [← hDD]; have hDz : D.size ≤ 2 * S.size + 65546 := (by have := hd1.len; rw [szl] at this; rw [hDD, ba_size]; exact this); have hD0 : 0 < D.size := (by rw [hDD, ba_size]; exact hd1.ne); have HDL := hid hd1; have HDD := hid hDD; have HG1 := hid (HG.out.below hb1); have HB1 := hid hb1; clear hd1 hb1 hDD)
    | (go_at_call 15; refine HPI.out.mono ?_; rintro e w' ⟨k, hk, rfl, rfl⟩))
  have hDe := ba_some hD0
  go_wp2
  go_ret
  exact ⟨rfl, ((HB1.out.trans (HB2.out.mono HB1.out.size)).trans (HB3.out.mono (by have := HB1.out.size; have := HB2.out.size; omega))).trans (HB4.out.mono (by have := HB1.out.size; have := HB2.out.size; have := HB3.out.size; omega))⟩
end Go.Proofs.YthdmjmnkhlpnnaaGreatDoor
