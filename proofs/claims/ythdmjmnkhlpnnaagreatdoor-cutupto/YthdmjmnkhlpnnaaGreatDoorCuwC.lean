/-
  balekeep.Cut: every beginning of what is packed is told as ending too early; too little room is told.
-/
import Derived.Test.YthdmjmnkhlpnnaaGreatDoorZ34
namespace Go.Proofs.YthdmjmnkhlpnnaaGreatDoor
open Go.RowKit Go.Maps

theorem ba_none {D : ByteArray} (h : D.size = 0) : D.toList.isEmpty = true := by
  have e := szl D
  rw [← ByteArray.toList_eq, h] at e
  rw [List.eq_nil_of_length_eq_zero e]
  rfl
/-- a beginning of what is packed -/
theorem inf_cut {lv : Nat} {S D : ByteArray} {o : List UInt8} (h : Dfl lv S.data.toList o) (hD : D = ⟨o.toArray⟩) (c : Nat) (hc : c < D.size) (u : World) (hg : Glo u) (hz : D.size ≤ 4194304) :
    Calls Tryz.prog 16 #[.string (D.extract 0 c), .int .i64 S.size] u fun e w' => ∃ T : ByteArray, e = .returned (.tuple #[.string T, .int .i64 0, .int .i64 1]) ∧ T.size ≤ S.size ∧ S.extract 0 T.size = T ∧ Below u.heap.size u w' := by
  have hol : D.size = o.length := by rw [hD, ba_size]
  have e1 : D.extract 0 c = ⟨(o.take c).toArray⟩ := ba_ext (by rw [ba_ext_list, ba_of, hD, ba_of]; rfl)
  have hz2 : (D.extract 0 c).size ≤ 4194304 := by rw [ByteArray.size_extract]; omega
  obtain ⟨t', h2, h3⟩ := h.cut c (by omega)
  rw [← e1, szl] at h2
  refine (inflate_any u (D.extract 0 c) S.size hz2 hg (cell_in (hg 0 (by omega)))).mono fun e w' ⟨h4, h5⟩ => ⟨⟨t'.toArray⟩, ?_, ?_, ?_, h5⟩
  · rw [h4, show max (S.size : Int) 0 = S.size by omega, h2]
    rfl
  · have := h3.length_le
    rw [szl] at this
    rw [ba_size]
    exact this
  · apply ba_ext
    rw [ba_ext_list, ba_size, ba_of]
    exact (List.prefix_iff_eq_take.1 h3).symm
/-- less room than the text needs -/
theorem inf_room2 {lv : Nat} {S D : ByteArray} {o : List UInt8} (h : Dfl lv S.data.toList o) (hD : D = ⟨o.toArray⟩) (k : Nat) (hk : k < S.size) (u : World) (hg : Glo u) (hz : D.size ≤ 4194304) :
    Calls Tryz.prog 16 #[.string D, .int .i64 k] u fun e w' => e = .returned (.tuple #[.string ⟨#[]⟩, .int .i64 0, .int .i64 6]) ∧ Below u.heap.size u w' := by
  have h2 := h.room k (by omega) (by rw [szl]; omega)
  rw [← hD] at h2
  refine (inflate_any u D k hz hg (cell_in (hg 0 (by omega)))).mono fun e w' ⟨h4, h5⟩ => ⟨?_, h5⟩
  rw [h4, show max (k : Int) 0 = k by omega, h2]
  rfl
set_option maxRecDepth 20000 in
set_option maxHeartbeats 1600000 in
theorem cut_walk (w : World) (S : ByteArray) (lev att room : Int) (hl : -9223372036854775808 ≤ lev ∧ lev ≤ 9223372036854775807) (ha : -9223372036854775808 ≤ att ∧ att ≤ 9223372036854775807) (hr : -9223372036854775808 ≤ room ∧ room ≤ 9223372036854775807) (hS : S.size ≤ 1048576) (hg : Gl2 w) :
    Calls Tryz.prog 5 #[.string S, .int .i64 lev, .int .i64 att, .int .i64 room] w fun e w' => e = .returned (.bool true) ∧ Below w.heap.size w w' := by
  have HG := hid hg
  have HPI := hid (pickn_any lev 10 w (by omega) (by omega) hl)
  clear hg
  by_cases h0 : S.size = 0
  · have hSe := ba_none h0
    clear h0
    go_enter Tryz.func5, Tryz.ntmps5
    go_wp2_with (first
      | (go_at_call 16; refine (inf_room2 HDL.out HDD.out kr hkr w3 (HG1.out.below HB3.out).ord hD4).mono ?_; rintro e w4 ⟨rfl, hb4⟩; have HB4 := hid hb4; clear hb4)
      | (go_at_call 16; refine (inf_cut HDL.out HDD.out c hcD w1 HG1.out.ord hD4).mono ?_; rintro e w3 ⟨T, rfl, hT1, hT2, hb3⟩; have HB3 := hid hb3; have hTb : (T.toList == T.toList) = true := beq_self_eq_true _; clear hb3)
      | (go_at_call 15; refine (pickn_any room S.size w3 hS0 (by omega) hr).mono ?_; rintro e w' ⟨kr, hkr, rfl, rfl⟩)
      | (go_at_call 15; refine (pickn_any att D.size w1 hD0 (by omega) ha).mono ?_; rintro e w' ⟨c, hcD, rfl, rfl⟩)
      | (go_at_call 9; refine (deflate_any w S k (by omega) (by omega) HG.out).mono ?_; rintro e w1 ⟨o, rfl, hd1, hb1⟩; obtain ⟨D, hDD⟩ : ∃ D : ByteArray, D = ⟨o.toArray⟩ := ⟨_, rfl⟩; rw [← hDD]; have hDz : D.size ≤ 2 * S.size + 65546 := (by have := hd1.len; rw [szl] at this; rw [hDD, ba_size]; exact this); have hD4 : D.size ≤ 4194304 := (by omega); have hD0 : 0 < D.size := (by rw [hDD, ba_size]; exact hd1.ne); have hDe := ba_some hD0; have HDL := hid hd1; have HDD := hid hDD; have HG1 := hid (HG.out.below hb1); have HB1 := hid hb1; clear hd1 hb1 hDD)
      | (go_at_call 15; refine HPI.out.mono ?_; rintro e w' ⟨k, hk, rfl, rfl⟩))
    go_ret
    exact ⟨rfl, HB1.out.trans (HB3.out.mono HB1.out.size)⟩
  · have hS0 : 0 < S.size := by omega
    have hSe := ba_some hS0
    clear h0
    go_enter Tryz.func5, Tryz.ntmps5
    go_wp2_with (first
      | (go_at_call 16; refine (inf_room2 HDL.out HDD.out kr hkr w3 (HG1.out.below HB3.out).ord hD4).mono ?_; rintro e w4 ⟨rfl, hb4⟩; have HB4 := hid hb4; clear hb4)
      | (go_at_call 16; refine (inf_cut HDL.out HDD.out c hcD w1 HG1.out.ord hD4).mono ?_; rintro e w3 ⟨T, rfl, hT1, hT2, hb3⟩; have HB3 := hid hb3; have hTb : (T.toList == T.toList) = true := beq_self_eq_true _; clear hb3)
      | (go_at_call 15; refine (pickn_any room S.size w3 hS0 (by omega) hr).mono ?_; rintro e w' ⟨kr, hkr, rfl, rfl⟩)
      | (go_at_call 15; refine (pickn_any att D.size w1 hD0 (by omega) ha).mono ?_; rintro e w' ⟨c, hcD, rfl, rfl⟩)
      | (go_at_call 9; refine (deflate_any w S k (by omega) (by omega) HG.out).mono ?_; rintro e w1 ⟨o, rfl, hd1, hb1⟩; obtain ⟨D, hDD⟩ : ∃ D : ByteArray, D = ⟨o.toArray⟩ := ⟨_, rfl⟩; rw [← hDD]; have hDz : D.size ≤ 2 * S.size + 65546 := (by have := hd1.len; rw [szl] at this; rw [hDD, ba_size]; exact this); have hD4 : D.size ≤ 4194304 := (by omega); have hD0 : 0 < D.size := (by rw [hDD, ba_size]; exact hd1.ne); have hDe := ba_some hD0; have HDL := hid hd1; have HDD := hid hDD; have HG1 := hid (HG.out.below hb1); have HB1 := hid hb1; clear hd1 hb1 hDD)
      | (go_at_call 15; refine HPI.out.mono ?_; rintro e w' ⟨k, hk, rfl, rfl⟩))
    go_ret
    exact ⟨rfl, (HB1.out.trans (HB3.out.mono HB1.out.size)).trans (HB4.out.mono (by have := HB1.out.size; have := HB3.out.size; omega))⟩
end Go.Proofs.YthdmjmnkhlpnnaaGreatDoor
