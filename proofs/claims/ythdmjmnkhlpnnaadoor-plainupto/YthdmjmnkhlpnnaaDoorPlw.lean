/-
  The law of level 0: byte by byte.
-/
import Derived.Test.YthdmjmnkhlpnnaaDoorPkp
namespace Go.Proofs.YthdmjmnkhlpnnaaDoor
open Go.RowKit

/-- five new bytes as a string -/
theorem five_run (w : World) (x0 x1 x2 x3 x4 : UInt8) (z : Int) (hz : z = (x0.toNat : Int)) :
    (convert 33 9 (.slice (some ⟨w.heap.size, 0, none⟩) 5 5)).run Tryd.prog ((w.alloc (.cells #[.int .u8 z, .int .u8 x1.toNat, .int .u8 x2.toNat, .int .u8 x3.toNat, .int .u8 x4.toNat] 5)).drew) = .ok (.string ⟨#[x0, x1, x2, x3, x4]⟩) ((w.alloc (.cells #[.int .u8 z, .int .u8 x1.toNat, .int .u8 x2.toNat, .int .u8 x3.toNat, .int .u8 x4.toNat] 5)).drew) := by
  subst hz
  have h := run_convert_bytes_back (P := Tryd.prog) ((w.alloc (.cells #[.int .u8 x0.toNat, .int .u8 x1.toNat, .int .u8 x2.toNat, .int .u8 x3.toNat, .int .u8 x4.toNat] 5)).drew) 33 9 5 ⟨w.heap.size, 0, none⟩ 5 [x0, x1, x2, x3, x4] Tryd.underlying33 Tryd.underlying5 Tryd.underlying9 (fun j hj => ?_)
  · exact h
  · have e2 : (⟨w.heap.size, 0, none⟩ : Addr).add j = ⟨w.heap.size, j, none⟩ := by unfold Addr.add; split <;> simp_all
    rw [e2, cell_of_row _ w.heap.size j _ 5 (0, 0) (show ((w.alloc (.cells #[.int .u8 x0.toNat, .int .u8 x1.toNat, .int .u8 x2.toNat, .int .u8 x3.toNat, .int .u8 x4.toNat] 5)).drew).heap[w.heap.size]? = _ from heap_alloc_new w _)]
    simp at hj
    obtain rfl | rfl | rfl | rfl | rfl : j = 0 ∨ j = 1 ∨ j = 2 ∨ j = 3 ∨ j = 4 := by omega
    all_goals rfl

theorem five_run' (w : World) (x0 x1 x2 x3 x4 : UInt8) (z0 z1 z2 z3 z4 : Int) (h0 : z0 = (x0.toNat : Int)) (h1 : z1 = (x1.toNat : Int)) (h2 : z2 = (x2.toNat : Int)) (h3 : z3 = (x3.toNat : Int)) (h4 : z4 = (x4.toNat : Int)) :
    (convert 33 9 (.slice (some ⟨w.heap.size, 0, none⟩) 5 5)).run Tryd.prog ((w.alloc (.cells #[.int .u8 z0, .int .u8 z1, .int .u8 z2, .int .u8 z3, .int .u8 z4] 5)).drew) = .ok (.string ⟨#[x0, x1, x2, x3, x4]⟩) ((w.alloc (.cells #[.int .u8 z0, .int .u8 z1, .int .u8 z2, .int .u8 z3, .int .u8 z4] 5)).drew) := by
  subst h1 h2 h3 h4
  exact five_run w x0 x1 x2 x3 x4 z0 h0
theorem cat3 (P W H U : ByteArray) (h : P.data.toList = W.data.toList ++ (H.data.toList ++ U.data.toList)) : (P.toList == (W ++ H ++ U).toList) = true := by
  have e : P = W ++ H ++ U := by
    apply ByteArray.ext
    apply Array.toList_inj.1
    rw [h, ByteArray.data_append, ByteArray.data_append, Array.toList_append, Array.toList_append, List.append_assoc]
  rw [e]
  exact beq_self_eq_true _
theorem plF_last (f : Nat) (u : List UInt8) (h : ¬ 65535 < u.length) : plF (f + 1) u = hdr true u.length ++ u := by rw [plF, if_neg h]
theorem plF_more (f : Nat) (u : List UInt8) (h : 65535 < u.length) : plF (f + 1) u = hdr false 65535 ++ u.take 65535 ++ plF f (u.drop 65535) := by rw [plF, if_pos h]
theorem u8_ofNat (n : Nat) : ((UInt8.ofNat n).toNat : Int) = ((n % 256 : Nat) : Int) := by rw [UInt8.toNat_ofNat']
theorem byte_lo (n : Nat) : IntKind.u8.wrap (n : Int) = ((UInt8.ofNat (n % 256)).toNat : Int) := by
  rw [u8_ofNat, IntKind.wrap_u8, Nat.mod_mod]
  omega
theorem byte_hi (n : Nat) (h : n ≤ 65535) : IntKind.u8.wrap (IntKind.i64.wrap ((n : Int) / 256)) = ((UInt8.ofNat (n / 256)).toNat : Int) := by
  have e : IntKind.i64.wrap ((n : Int) / 256) = ((n / 256 : Nat) : Int) := by rw [IntKind.wrap_i64]; omega
  rw [u8_ofNat, e, IntKind.wrap_u8]
  omega
set_option maxRecDepth 20000 in
set_option maxHeartbeats 1600000 in
theorem plain_walk (w : World) (S : ByteArray) (hS : S.size ≤ 1048576) :
    Calls Tryd.prog 5 #[.string S] w fun e w' => e = .returned (.bool true) ∧ Below w.heap.size w w' := by
  have HD := deflate0_any w S hS
  obtain ⟨pf, hpf⟩ : ∃ pf : Nat → List UInt8 → List UInt8, pf = plF := ⟨_, rfl⟩
  have HPF := hid hpf
  rw [← hpf] at HD
  clear hpf
  obtain ⟨P, hP⟩ : ∃ P : ByteArray, P = ⟨(pf (S.size + 1) S.data.toList).toArray⟩ := ⟨_, rfl⟩
  rw [← hP] at HD
  have HDD := hid HD
  have HP := hid hP
  clear HD hP
  have HP0 : Hid (P.data.toList = ByteArray.empty.data.toList ++ pf (S.size + 1) S.data.toList) := by
    show P.data.toList = _
    rw [HP.out]
    rfl
  clear HP
  go_enter Tryd.func5, Tryd.ntmps5
  go_wp2_with (go_at_call 11; refine HDD.out.mono ?_; rintro e w1 ⟨rfl, hb1⟩; have HB1 := hid hb1; clear hb1)
  go_loopw [5, 6] (fun wv rv wr => ∃ (f : Nat) (W U : ByteArray), wv = .string W ∧ rv = .string U ∧ U.size ≤ 1048576 ∧ W.size + 2 * U.size ≤ 4000000 ∧ U.size < f ∧ Hid (P.data.toList = W.data.toList ++ pf f U.data.toList) ∧ Hid (Below w.heap.size w wr)) (fun _ rv _ => sizeOfS rv)
  case atStart => exact ⟨S.size + 1, ByteArray.empty, S, rfl, rfl, hS, by show 0 + 2 * S.size ≤ _; omega, by omega, HP0, HB1⟩
  case round =>
    clear HP0 HB1
    obtain ⟨f0, W, U, rfl, rfl, hU, hWU, hf, HP, HB⟩ := hrel
    obtain ⟨f, rfl⟩ : ∃ f, f0 = f + 1 := ⟨f0 - 1, by omega⟩
    by_cases hbig : 65535 < U.size
    · have d : decide ((65535 : Int) < (U.size : Int)) = true := by simp; omega
      obtain ⟨H5, hH5⟩ : ∃ H5 : ByteArray, H5 = ⟨#[0, 255, 255, 0, 0]⟩ := ⟨_, rfl⟩
      have k1 : IntKind.u8.wrap 65535 = 255 := by decide
      have k2 : IntKind.i64.wrap 255 = 255 := by decide
      have k3 : IntKind.u8.wrap 255 = 255 := by decide
      have k4 : IntKind.u8.wrap 0 = 0 := by decide
      have k5 : IntKind.i64.wrap 0 = 0 := by decide
      have hcv := five_run' wr 0 255 255 0 0 0 255 255 0 0 rfl rfl rfl rfl rfl
      rw [← hH5] at hcv
      have HH5 := hid hH5
      have h5a : H5.size ≤ 5 := by rw [hH5]; exact Nat.le_refl 5
      clear hH5
      go_upto_region 10 with fail
      go_region_with (fail)
      all_goals
        clear hcv k1 k2 k3 k4 k5
        go_wp2
        have e := HP.out
        have hl : U.data.toList.length = U.size := by rw [Array.length_toList]; rfl
        rw [HPF.out, plF_more f _ (by omega)] at e
        refine ⟨⟨f, _, _, rfl, rfl, by rw [ByteArray.size_extract]; omega, ?_, by rw [ByteArray.size_extract]; omega, ?_, (HB.out.alloc HB.out.size _).drew⟩, ?_⟩
        · rw [ByteArray.size_append, ByteArray.size_append, ByteArray.size_extract, ByteArray.size_extract]
          omega
        · show P.data.toList = _
          rw [e, HPF.out, ByteArray.data_append, ByteArray.data_append, Array.toList_append, Array.toList_append, extract_take, extract_drop, HH5.out]
          simp only [List.append_assoc]
          rfl
        · show (U.extract 65535 U.size).size < U.size
          rw [ByteArray.size_extract]
          omega
    · have d : decide ((65535 : Int) < (U.size : Int)) = false := by simp; omega
      obtain ⟨n, hn⟩ : ∃ n, n = U.size := ⟨_, rfl⟩
      obtain ⟨x1, hx1⟩ : ∃ x, x = UInt8.ofNat (n % 256) := ⟨_, rfl⟩
      obtain ⟨x2, hx2⟩ : ∃ x, x = UInt8.ofNat (n / 256) := ⟨_, rfl⟩
      obtain ⟨x3, hx3⟩ : ∃ x, x = UInt8.ofNat ((65535 - n) % 256) := ⟨_, rfl⟩
      obtain ⟨x4, hx4⟩ : ∃ x, x = UInt8.ofNat ((65535 - n) / 256) := ⟨_, rfl⟩
      have j1 : IntKind.u8.wrap (U.size : Int) = (x1.toNat : Int) := by rw [hx1, hn]; exact byte_lo _
      have j2 : IntKind.u8.wrap (IntKind.i64.wrap ((U.size : Int) / 256)) = (x2.toNat : Int) := by rw [hx2, hn]; exact byte_hi _ (by omega)
      have e3 : (65535 - (U.size : Int)) = ((65535 - n : Nat) : Int) := by omega
      have j3 : IntKind.u8.wrap (65535 - (U.size : Int)) = (x3.toNat : Int) := by rw [e3, hx3]; exact byte_lo _
      have j4 : IntKind.u8.wrap (IntKind.i64.wrap ((65535 - (U.size : Int)).tdiv 256)) = (x4.toNat : Int) := by rw [Int.tdiv_eq_ediv_of_nonneg (by omega), e3, hx4]; exact byte_hi _ (by omega)
      clear e3
      obtain ⟨H5, hH5⟩ : ∃ H5 : ByteArray, H5 = ⟨#[1, x1, x2, x3, x4]⟩ := ⟨_, rfl⟩
      have hcv := five_run wr 1 x1 x2 x3 x4 1 rfl
      rw [← hH5] at hcv
      have HH5 := hid hH5
      have h5a : H5.size ≤ 5 := by rw [hH5]; exact Nat.le_refl 5
      clear hH5
      have HXX := hid (And.intro hn (And.intro hx1 (And.intro hx2 (And.intro hx3 hx4))))
      clear hn hx1 hx2 hx3 hx4
      go_upto_region 10 with fail
      go_region_with (fail)
      all_goals
        clear hcv j1 j2 j3 j4
        go_wp2
        go_ret
        refine ⟨?_, (HB.out.alloc HB.out.size _).drew⟩
        obtain ⟨rfl, rfl, rfl, rfl, rfl⟩ := HXX.out
        have e := HP.out
        have hl : U.data.toList.length = U.size := by rw [Array.length_toList]; rfl
        rw [HPF.out, plF_last f _ (by omega), hl] at e
        rw [cat3 P W H5 U (by rw [e, HH5.out]; rfl)]
        rfl
end Go.Proofs.YthdmjmnkhlpnnaaDoor
