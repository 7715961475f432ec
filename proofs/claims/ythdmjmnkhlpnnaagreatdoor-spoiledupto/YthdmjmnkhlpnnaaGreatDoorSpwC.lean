/-
  balekeep.Spoiled: a turned sum, something behind, a cut frame.
-/
import Derived.Test.YthdmjmnkhlpnnaaGreatDoorPfsC
import Derived.Test.YthdmjmnkhlpnnaaGreatDoorXorC
namespace Go.Proofs.YthdmjmnkhlpnnaaGreatDoor
open Go.RowKit Go.Maps

/-- a string's bytes in a new row -/
theorem convF (u : World) (X : ByteArray) : ∃ cap u3, (convert 9 37 (.string X)).run Tryz.prog u = .ok (.slice (some ⟨u.heap.size, 0, none⟩) X.size cap) u3 ∧ (∀ j, j < X.size → u3.cell? ⟨u.heap.size, j, none⟩ = some (.int .u8 (byt X j))) ∧ (∀ j, j < X.size → u3.frozen? ⟨u.heap.size, j, none⟩ = false) ∧ Below u.heap.size u u3 := by
  have hr := run_bytes_of_string (P := Tryz.prog) u 9 37 5 X Tryz.underlying9 Tryz.underlying37 Tryz.underlying5
  refine ⟨_, _, hr, fun j hj => ?_, fun j hj => ?_, ((Below.refl u.heap.size u).drew).alloc (Nat.le_refl _) _⟩
  · rw [cell_of_row _ u.heap.size j _ _ _ (heap_alloc_new u.drew _)]
    unfold bytesRow byt
    have hx : X.data.size = X.size := rfl
    rw [Array.getElem?_append_left (by simpa using by omega), Array.getElem?_map, List.getD_eq_getElem?_getD, Array.getElem?_toList, Array.getElem?_eq_getElem (by omega)]
    rfl
  · have hb := heap_alloc_new u.drew (.cells (bytesRow X (grownCap u X.size 0 5)) 5 ((bytesRow X (grownCap u X.size 0 5)).size, (bytesRow X (grownCap u X.size 0 5)).size + 1))
    have hz : X.size ≤ (bytesRow X (grownCap u X.size 0 5)).size := by
      unfold bytesRow
      have hx : X.data.size = X.size := rfl
      simp
    have hb2 : (u.drew.alloc (.cells (bytesRow X (grownCap u X.size 0 5)) 5 ((bytesRow X (grownCap u X.size 0 5)).size, (bytesRow X (grownCap u X.size 0 5)).size + 1))).heap[u.heap.size]? = _ := hb
    unfold World.frozen?
    simp only
    rw [hb2]
    simp
    omega
set_option maxRecDepth 20000 in
set_option maxHeartbeats 1600000 in
theorem spoiled_walk (w : World) (S : ByteArray) (lev att : Int) (bb : Nat) (X : ByteArray) (hbb : bb < 256) (hl : -9223372036854775808 ≤ lev ∧ lev ≤ 9223372036854775807) (ha : -9223372036854775808 ≤ att ∧ att ≤ 9223372036854775807) (hS : S.size + X.size ≤ 1048576) (hg : Gl2 w) :
    Calls Tryz.prog 6 #[.string S, .int .i64 lev, .int .i64 att, .int .u8 bb, .string X] w fun e w' => e = .returned (.bool true) ∧ Below w.heap.size w w' := by
  have HG := hid hg
  have HPI := hid (pickn_any lev 10 w (by omega) (by omega) hl)
  have hS1 : S.size ≤ 1048576 := by omega
  have hX1 : X.size ≤ 1048576 := by omega
  clear hg
  go_enter Tryz.func6, Tryz.ntmps6
  go_upto_region 4 with (first
    | (go_at_call 10; refine (frame_any w S k (by omega) hS1 HG.out).mono ?_; rintro e w1 ⟨o, rfl, hd1, hb1⟩; obtain ⟨FF, hFF⟩ : ∃ F : ByteArray, F = ⟨#[120, 156]⟩ ++ ⟨o.toArray⟩ ++ ⟨(be4 (adS S.data.toList)).toArray⟩ := ⟨_, rfl⟩; rw [← hFF]; have hFs := (fr_list hFF).2; have hF7 : 7 ≤ FF.size := (by have := hd1.ne; omega); have hFz : FF.size ≤ 2200000 := (by have := hd1.len; rw [szl] at this; omega); have HFF := hid (And.intro (fr_list hFF).1 hFs); have HDL := hid hd1; have HG1 := hid (HG.out.below hb1); have HB1 := hid hb1; clear hd1 hb1 hFF hFs)
    | (go_at_call 15; refine HPI.out.mono ?_; rintro e w' ⟨k, hk, rfl, rfl⟩))
  obtain ⟨cap, u3, hcv, hcc, hcf, hcb⟩ := convF w1 FF
  obtain ⟨G, hG⟩ : ∃ G, G = w1.heap.size := ⟨_, rfl⟩
  rw [← hG] at hcv hcc hcf
  have HGG := hid hG
  have HCC := hid hcc
  have HCF := hid hcf
  have HCB := hid hcb
  clear hG hcc hcf hcb
  go_upto_region 6 with (go_at_call 15; refine (pickn_any att 4 u3 (by omega) (by omega) ha).mono ?_; rintro e w' ⟨kq, hkq, rfl, rfl⟩)
  obtain ⟨i, hi⟩ : ∃ i, i = FF.size - 1 - kq := ⟨_, rfl⟩
  have jI : (FF.size : Int) - 1 - (kq : Int) = (i : Int) := by omega
  have hil : i < FF.size := by omega
  have cI := HCC.out i hil
  have fI := HCF.out i hil
  obtain ⟨x, hx⟩ : ∃ x, x = byt FF i := ⟨_, rfl⟩
  have hx256 : x < 256 := by rw [hx]; exact byt_lt _ _
  rw [← hx] at cI
  obtain ⟨y, hy⟩ : ∃ y, y = 1 + bb % 255 := ⟨_, rfl⟩
  have hy256 : y < 256 := by omega
  obtain ⟨hxo, hxl, hxn⟩ := xor_u8 x hx256 y hy256
  have jR : IntKind.u8.wrap (1 + IntKind.u8.wrap ((bb : Int) % 255)) = (y : Int) := by rw [IntKind.wrap_u8, IntKind.wrap_u8]; omega
  obtain ⟨z, hz⟩ : ∃ z, z = x ^^^ y := ⟨_, rfl⟩
  rw [← hz] at hxo hxl hxn
  have HXI := hid (And.intro hi (And.intro hx (And.intro (hxn (by omega)) hy)))
  clear hi hx hy hz hxn
  have hxb : bits BinOp.xor IntKind.u8 (x : Int) (1 + (bb : Int) % 255) = (z : Int) := by rw [show (1 + (bb : Int) % 255) = (y : Int) by have := HXI.out.2.2.2; omega]; exact hxo
  go_upto_region 7 with fail
  have HB4 : Hid (Below w1.heap.size w1 (u3.setCell ⟨G, i, none⟩ (.int .u8 z))) := HCB.out.setCell (p := ⟨G, i, none⟩) (by show w1.heap.size ≤ G; have := HGG.out; omega) _
  have HL4 : Hid (∃ F2 : ByteArray, F2.data.toList = FF.data.toList.set i (UInt8.ofNat z) ∧ F2.size = FF.size ∧ (convert 37 9 (.slice (some ⟨G, 0, none⟩) FF.size cap)).run Tryz.prog (u3.setCell ⟨G, i, none⟩ (.int .u8 z)) = .ok (.string F2) (u3.setCell ⟨G, i, none⟩ (.int .u8 z))) := by
    have hl : (FF.data.toList.set i (UInt8.ofNat z)).length = FF.size := by rw [List.length_set, szl]
    refine ⟨⟨(FF.data.toList.set i (UInt8.ofNat z)).toArray⟩, rfl, by rw [ba_size, hl], ?_⟩
    have hb := run_convert_bytes_back (P := Tryz.prog) (u3.setCell ⟨G, i, none⟩ (.int .u8 z)) 37 9 5 ⟨G, 0, none⟩ cap (FF.data.toList.set i (UInt8.ofNat z)) Tryz.underlying37 Tryz.underlying5 Tryz.underlying9 (fun j hj => by
      have e2 : (⟨G, 0, none⟩ : Addr).add j = ⟨G, j, none⟩ := by unfold Addr.add; split <;> simp_all
      rw [hl] at hj
      rw [e2]
      by_cases e : j = i
      · subst e
        rw [World.cell?_setCell_same' _ _ _ (by rw [cI]; rfl)]
        have e6 : (FF.data.toList.set j (UInt8.ofNat z))[j]'(by first | exact hj | (rw [hl]; exact hj)) = UInt8.ofNat z := List.getElem_set_self _
        rw [e6, UInt8.toNat_ofNat', Nat.mod_eq_of_lt (by omega)]
      · rw [World.cell?_setCell_other _ _ _ _ (by intro e'; injection e' with _ e' _; exact e e'.symm), HCC.out j hj]
        have e5 : (FF.data.toList.set i (UInt8.ofNat z))[j]'(by rw [hl]; exact hj) = FF.data.toList[j]'(by rw [szl]; exact hj) := List.getElem_set_ne (by omega) _
        unfold byt
        rw [e5, List.getD_eq_getElem?_getD, List.getElem?_eq_getElem (by rw [szl]; exact hj)]
        rfl)
    rw [hl] at hb
    exact hb
  clear hcv cI fI hxo hxb
  generalize u3.setCell ⟨G, i, none⟩ (.int .u8 z) = W4 at HB4 HL4 ⊢
  obtain ⟨F2, hF2, hF2z, hcv2⟩ := HL4.out
  have HE2 : Hid (∃ y', F2.data.toList = [120, 156] ++ (o ++ y') ∧ enF ⟨y'.toArray⟩ ⟨S.data.toList.toArray⟩ = 8) := by
    obtain ⟨e1, e2, e3, -⟩ := HXI.out
    obtain ⟨f1, f2⟩ := HFF.out
    have hi2 : i = 2 + (o.length + (3 - kq)) := by omega
    refine ⟨(be4 (adS S.data.toList)).set (3 - kq) (UInt8.ofNat z), by rw [hF2, f1, hi2, set_tail], en_other _ _ (by rw [List.length_set]; rfl) (fun e => ?_)⟩
    have e4 := congrArg (fun l => l.getD (3 - kq) 0) e
    have hl4 : 3 - kq < (be4 (adS S.data.toList)).length := by show _ < 4; omega
    simp only [List.getD_eq_getElem?_getD, List.getElem?_set_self hl4, Option.getD_some] at e4
    have e5 : x = ((be4 (adS S.data.toList)).getD (3 - kq) 0).toNat := by
      rw [e2]
      unfold byt
      rw [f1, hi2, show 2 + (o.length + (3 - kq)) = o.length + (3 - kq) + 1 + 1 by omega]
      show ((o ++ be4 (adS S.data.toList)).getD (o.length + (3 - kq)) 0).toNat = _
      rw [List.getD_eq_getElem?_getD, List.getD_eq_getElem?_getD, List.getElem?_append_right (by omega), Nat.add_sub_cancel_left]
    rw [List.getD_eq_getElem?_getD, ← e4, UInt8.toNat_ofNat'] at e5
    omega
  clear hF2 HL4 HXI
  have hF24 : F2.size ≤ 4194304 := by omega
  obtain ⟨y2, hy2, hn2⟩ := HE2.out
  have HY2 := hid (And.intro hy2 hn2)
  clear hy2 hn2 HE2
  have HG4 := hid (HG1.out.below HB4.out)
  go_upto_region 8 with (go_at_call 17; refine (unf_err HDL.out y2 F2 HY2.out.1 8 HY2.out.2 (by omega) W4 HG4.out.ord hF24).mono ?_; rintro e w5 ⟨rfl, hb5⟩; have HB5 := hid hb5; clear hb5)
  have HG5 := hid (HG4.out.below HB5.out)
  have HE3 : Hid ((FF ++ X ++ ⟨#[120]⟩ : ByteArray).data.toList = [120, 156] ++ (o ++ (be4 (adS S.data.toList) ++ (X.data.toList ++ [120]))) ∧ enF ⟨(be4 (adS S.data.toList) ++ (X.data.toList ++ [120])).toArray⟩ ⟨S.data.toList.toArray⟩ = 7) := by
    refine ⟨by rw [ba_app, ba_app, HFF.out.1]; simp, ?_⟩
    rw [en_four, if_neg (by simp)]
  have hF3z : (FF ++ X ++ ⟨#[120]⟩ : ByteArray).size ≤ 4194304 := by rw [ByteArray.size_append, ByteArray.size_append]; show FF.size + X.size + 1 ≤ _; omega
  obtain ⟨F3, hF3⟩ : ∃ F3 : ByteArray, FF ++ X ++ ⟨#[120]⟩ = F3 := ⟨_, rfl⟩
  rw [hF3] at HE3 hF3z
  obtain ⟨y3, hy3⟩ : ∃ y3, y3 = be4 (adS S.data.toList) ++ (X.data.toList ++ [120]) := ⟨_, rfl⟩
  rw [← hy3] at HE3
  clear jI hy3
  have HU3 := hid (unf_err HDL.out y3 F3 HE3.out.1 7 HE3.out.2 (by omega) w5 HG5.out.ord hF3z)
  go_upto_region 9 with (go_at_call 17; refine HU3.out.mono ?_; rintro e w6 ⟨rfl, hb6⟩; have HB6 := hid hb6; have HG6 := hid (HG5.out.below hb6); clear hb6)
  clear hF3z HE3 hF3 HU3
  have HQ4 : Hid (∀ kp : Nat, kp < 4 → ∃ n2 : Nat, (FF.size : Int) - 1 - (kp : Int) = (n2 : Int) ∧ n2 ≤ FF.size ∧ (FF.extract 0 n2).size ≤ 4194304 ∧ ∃ y, (FF.extract 0 n2).data.toList = [120, 156] ++ (o ++ y) ∧ enF ⟨y.toArray⟩ ⟨S.data.toList.toArray⟩ = 1) := fun kp hkp => by
    refine ⟨FF.size - 1 - kp, by omega, by omega, by rw [ByteArray.size_extract]; omega, (be4 (adS S.data.toList)).take (3 - kp), ?_, en_short _ _ (by rw [List.length_take]; omega)⟩
    rw [ba_ext_list, HFF.out.1, HFF.out.2, show o.length + 6 - 1 - kp = o.length + (3 - kp) + 1 + 1 by omega]
    show 120 :: 156 :: ((o ++ be4 (adS S.data.toList)).take (o.length + (3 - kp))) = _
    rw [List.take_length_add_append]
    rfl
  go_wp2_with (first
    | (go_at_call 17; refine HU4.out.mono ?_; rintro e w7 ⟨rfl, hb7⟩; have HB7 := hid hb7; clear hb7)
    | (go_at_call 15; refine (pickn_any att 4 w6 (by omega) (by omega) ha).mono ?_; rintro e w' ⟨kp, hkp, rfl, rfl⟩; obtain ⟨n2, jI2, jN2, hF4z, y4, hy4, hn4⟩ := HQ4.out kp hkp; have HU4 := hid (unf_err HDL.out y4 (FF.extract 0 n2) hy4 1 hn4 (by omega) w6 HG6.out.ord hF4z); clear hy4 hn4 hF4z))
  go_ret
  have z1 := HB1.out.size
  have z4 := HB4.out.size
  have z5 := HB5.out.size
  have z6 := HB6.out.size
  exact ⟨rfl, (((HB1.out.trans (HB4.out.mono z1)).trans (HB5.out.mono (by omega))).trans (HB6.out.mono (by omega))).trans (HB7.out.mono (by omega))⟩
end Go.Proofs.YthdmjmnkhlpnnaaGreatDoor
