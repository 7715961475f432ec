/-
  balekeep.Short: one byte as often as one likes is packed short.
-/
import Derived.Test.YthdmjmnkhlpnnaaGreatDoorPshC
namespace Go.Proofs.YthdmjmnkhlpnnaaGreatDoor
open Go.RowKit Go.Maps

set_option maxRecDepth 20000 in
set_option maxHeartbeats 1600000 in
theorem short_walk (w : World) (cc : Nat) (n lev : Int) (hcc : cc < 256) (hn : -9223372036854775808 ≤ n ∧ n ≤ 9223372036854775807) (hl : -9223372036854775808 ≤ lev ∧ lev ≤ 9223372036854775807) (hg : Gl2 w) :
    Calls Tryz.prog 7 #[.int .u8 cc, .int .i64 n, .int .i64 lev] w fun e w' => e = .returned (.bool true) ∧ Below w.heap.size w w' := by
  have HG := hid hg
  have HPI := hid (pickn_any n 4000 w (by omega) (by omega) hn)
  clear hg
  go_enter Tryz.func7, Tryz.ntmps7
  go_upto_region 2 with (go_at_call 15; refine HPI.out.mono ?_; rintro e w' ⟨k, hk, rfl, rfl⟩)
  obtain ⟨i0, hi, hz0, hz1, hz2⟩ := info_parts info5
  obtain ⟨c0, hc0, hmk⟩ : ∃ c0 : Array Value, c0.size = k ∧ (Instr.makeSlice 37 (.int .i64 (k : Int)) (.int .i64 (k : Int))).run Tryz.prog w = .ok (.slice (some ⟨w.heap.size, 0, none⟩) k k) (w.alloc (.cells c0 5)) := by
    have h := run_make (P := Tryz.prog) w 37 5 i0 (.int .u8 0) Tryz.underlying37 hi hz0 .i64 .i64 (k : Int) (k : Int) (by omega) (Int.le_refl _) (by rw [hz2]; omega) (by omega)
    rw [hz1, Nat.mul_one, show ((k : Int)).toNat = k by omega] at h
    exact ⟨_, size_madeCells _ _, h⟩
  have HB1 := hid ((Below.refl w.heap.size w).alloc (Nat.le_refl _) (.cells c0 5))
  have HX1 : Hid ((w.alloc (.cells c0 5)).heap[w.heap.size]? = some (.cells c0 5 (0, 0))) := heap_alloc_new _ _
  have HC0 := hid hc0
  clear hc0 hi hz0 hz1 hz2
  obtain ⟨G, hG⟩ : ∃ G, G = w.heap.size := ⟨_, rfl⟩
  rw [← hG] at hmk HX1
  have HGG := hid hG
  clear hG
  generalize w.alloc (.cells c0 5) = W1 at hmk HB1 HX1
  go_upto_region 3 with fail
  clear hmk
  go_wp2
  go_loopw [9] (fun v wr => ∃ (j : Nat) (cs : Array Value), j ≤ k ∧ v = .int .i64 j ∧ Hid (wr.heap[G]? = some (.cells cs 5 (0, 0))) ∧ Hid (cs.size = k ∧ ∀ i, i < j → cs[i]? = some (.int .u8 cc)) ∧ Hid (Below w.heap.size w wr)) (fun v _ => k - (intOf v).toNat)
  case atStart => exact ⟨0, _, by omega, rfl, HX1, ⟨HC0.out, fun i hi => by omega⟩, HB1⟩
  case round =>
    obtain ⟨j, cs, hj, rfl, HX, HC, HB⟩ := hrel
    by_cases hlt : j < k
    · have d1 : decide ((j : Int) < (k : Int)) = true := by simp; omega
      have cJ : wr.cell? ⟨G, j, none⟩ = some (cs[j]'(by have := HC.out.1; omega)) := by rw [cell_of_row _ _ j _ _ _ HX.out]; exact Array.getElem?_eq_getElem _
      have fJ : wr.frozen? ⟨G, j, none⟩ = false := by have := HX.out; simp [World.frozen?, this]
      go_wp2
      refine ⟨⟨j + 1, cs.setIfInBounds j (.int .u8 cc), by omega, int_eq (by omega), ?_, ⟨by rw [Array.size_setIfInBounds]; exact HC.out.1, fun i hi => ?_⟩, HB.out.setCell (p := ⟨G, j, none⟩) (by show w.heap.size ≤ G; have := HGG.out; omega) _⟩, by simp [intOf]; omega⟩
      · show _ = _
        rw [blk_set HX.out]
      · by_cases e : i = j
        · subst e
          rw [Array.getElem?_setIfInBounds_self_of_lt (by have := HC.out.1; omega)]
        · rw [Array.getElem?_setIfInBounds_ne (by omega)]
          exact HC.out.2 i (by omega)
    · obtain rfl : j = k := by omega
      have d1 : decide ((j : Int) < (j : Int)) = false := by simp
      obtain ⟨S, hS⟩ : ∃ S : ByteArray, S = ⟨(List.replicate j (UInt8.ofNat cc)).toArray⟩ := ⟨_, rfl⟩
      have hSz : S.size = j := by rw [hS, ba_size, List.length_replicate]
      have hSl : S.data.toList = List.replicate j (UInt8.ofNat cc) := by rw [hS]
      have HCV : Hid (∀ u : World, Below wr.heap.size wr u → (convert 37 9 (.slice (some ⟨G, 0, none⟩) j j)).run Tryz.prog u = .ok (.string S) u) := fun u hu => by
        have hb := run_convert_bytes_back (P := Tryz.prog) u 37 9 5 ⟨G, 0, none⟩ j (List.replicate j (UInt8.ofNat cc)) Tryz.underlying37 Tryz.underlying5 Tryz.underlying9 (fun i hi => by
          have e2 : (⟨G, 0, none⟩ : Addr).add i = ⟨G, i, none⟩ := by unfold Addr.add; split <;> simp_all
          rw [List.length_replicate] at hi
          rw [e2, cell_of_row _ _ i _ _ _ ((hu.block G (Array.getElem?_eq_some_iff.1 HX.out).1).trans HX.out), HC.out.2 i hi]
          rw [List.getElem_replicate, UInt8.toNat_ofNat', Nat.mod_eq_of_lt (by omega)])
        rw [List.length_replicate, ← hS] at hb
        exact hb
      have HGr := hid (HG.out.below HB.out)
      have HSL := hid (And.intro hSz hSl)
      have HP9 : Hid (∀ u : World, Calls Tryz.prog 15 #[.int .i64 lev, .int .i64 9] u fun e w' => ∃ k : Nat, k < 9 ∧ e = .returned (.int .i64 k) ∧ u = w') := fun u => pickn_any lev 9 u (by omega) (by omega) hl
      have hcv1 := HCV.out wr.drew (Below.refl _ wr).drew
      have HGd := hid (HGr.out.below (Below.refl _ wr).drew)
      have hS4 : S.size ≤ 4194304 := by omega
      clear hS hSz hSl
      go_upto_region 7 with fail
      go_region_with (first
        | (go_at_call 9; refine (deflate_any wr.drew S lv (by omega) hS4 HGd.out).mono ?_; rintro e w1 ⟨o, rfl, hd1, hb1⟩; obtain ⟨D, hDD⟩ : ∃ D : ByteArray, D = ⟨o.toArray⟩ := ⟨_, rfl⟩; rw [← hDD]; have HDL := hid hd1; have HDD := hid hDD; have HB1' := hid (((Below.refl wr.heap.size wr).drew).trans hb1); have HG2 := hid (HGd.out.below hb1); clear hd1 hb1 hDD)
        | (go_at_call 15; refine (HP9.out _).mono ?_; rintro e w' ⟨l0, hl0, rfl, rfl⟩; obtain ⟨lv, hlv⟩ : ∃ lv, lv = 1 + l0 := ⟨_, rfl⟩; have jL : (1 : Int) + (l0 : Int) = (lv : Int) := (by omega); have jW : IntKind.i64.wrap (lv : Int) = (lv : Int) := (by rw [IntKind.wrap_i64]; omega); have hl9 : lv ≤ 9 := (by omega); have hl1 : 1 ≤ lv := (by omega); clear hlv))
      all_goals
        have HIN : Hid (Calls Tryz.prog 16 #[.string D, .int .i64 j] w1 fun e w' => e = .returned (.tuple #[.string S, .int .i64 D.size, .int .i64 0]) ∧ Below w1.heap.size w1 w') := by
          have hdz : D.size ≤ 4194304 := by have q := HDL.out.len; rw [szl] at q; rw [HDD.out, ba_size]; have := HSL.out.1; omega
          have := inf_dfl HDL.out HDD.out ⟨#[]⟩ w1 HG2.out.ord (by show D.size + 0 ≤ _; omega)
          rw [show D ++ (⟨#[]⟩ : ByteArray) = D from ba_ext (by rw [ba_app]; simp), HSL.out.1] at this
          exact this
        have hDs : D.size ≤ 32 + j / 100 := by
          have q := HDL.out.short hl1 (UInt8.ofNat cc) (fun x hx => by rw [HSL.out.2] at hx; exact List.eq_of_mem_replicate hx) (by rw [szl, HSL.out.1]; omega)
          rw [szl, HSL.out.1] at q
          rw [HDD.out, ba_size]
          exact q
        have hSb : (S.toList == S.toList) = true := beq_self_eq_true _
        clear hcv1
        go_upto_region 9 with (go_at_call 16; refine HIN.out.mono ?_; rintro e w2 ⟨rfl, hb2⟩; have HB2 := hid hb2; clear hb2)
        have hcv2 := HCV.out w2 (HB1'.out.trans (HB2.out.mono HB1'.out.size))
        have hDi : (D.size : Int) ≤ 32 + (j : Int) / 100 := by omega
        go_wp2
        go_ret
        exact ⟨by simp, (HB.out.trans (HB1'.out.mono HB.out.size)).trans (HB2.out.mono (by have := HB.out.size; have := HB1'.out.size; omega))⟩
end Go.Proofs.YthdmjmnkhlpnnaaGreatDoor
