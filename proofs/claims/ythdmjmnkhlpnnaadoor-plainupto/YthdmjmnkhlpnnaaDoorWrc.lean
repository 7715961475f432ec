/-
  A block as it is, written.
-/
import Derived.Test.YthdmjmnkhlpnnaaDoorWra
import Derived.Test.YthdmjmnkhlpnnaaDoorAps
namespace Go.Proofs.YthdmjmnkhlpnnaaDoor
open Go.RowKit

/-- a block that is neither a packer's nor of bytes stays -/
theorem Kw.cells {w w' : World} {B : Nat} {ov : Value} {V L : Nat} {pv sv : Value} (hk : Kw B ov w w') (h : Wb w B ov V L pv sv) {q T : Nat} {cs : Array Value} {fr : Nat × Nat} (hq : w.heap[q]? = some (.cells cs T fr)) (h1 : T ≠ 81) (h2 : T ≠ 5) : w'.heap[q]? = some (.cells cs T fr) := by
  obtain ⟨o, g, c, hW, -⟩ := h.st
  rw [hk.blk q (Array.getElem?_eq_some_iff.1 hq).1 (fun e => ?_) (fun e => ?_)]
  · exact hq
  · have := hW.blk
    rw [← e, hq] at this
    injection this with this; injection this with _ this _; exact h1 this
  · obtain ⟨_, ⟨rfl, _⟩ | ⟨k, cap, cur, rfl, _, hh, _⟩⟩ := hW.own
    · simp [Value.ownBlock] at e
    · simp [Value.ownBlock] at e
      subst e
      rw [hq] at hh
      injection hh with hh; injection hh with _ hh _; exact h2 hh

theorem row_shape {w : World} {base n e : Nat} {v : Value} {xs : List Value} (h : w.ownsRow base e 1 v n xs) : ∃ ao c, v = .slice ao n c := by
  obtain ⟨_, ⟨rfl, h0⟩ | ⟨q, cap, cur, rfl, _⟩⟩ := h
  · exact ⟨none, 0, by rw [h0]⟩
  · exact ⟨_, _, rfl⟩
/-- bytes more: behind the append, and behind the store of what it gave -/
theorem Wr.grown0 {w : World} {B : Nat} {ov : Value} {o : List UInt8} {g c : Nat} {pv sv : Value} (h : Wr w B ov o g c pv sv) {w1 : World} (hg : w.grownBy w1 ov.ownBlock) : w1.heap[B]? = some (.cells #[ov, .int .u64 g, .int .i64 c, pv, sv] 81 (0, 0)) := by
  rw [hg.block B h.lt (fun e => by have := h.own.lt B e.symm; omega)]
  exact h.blk
theorem Wr.apps {w : World} {B : Nat} {ov : Value} {o : List UInt8} {g c : Nat} {pv sv : Value} (h : Wr w B ov o g c pv sv) {w1 : World} {nv : Value} {t : List UInt8} {n : Nat} (hn : n = o.length + t.length) (hown : w1.ownsRow (B + 1) 5 1 nv n (bys o ++ bys t)) (hg : w.grownBy w1 ov.ownBlock) : Wr (w1.setCell ⟨B, 0, none⟩ nv) B nv (o ++ t) g c pv sv := by
  refine ⟨?_, ?_⟩
  · rw [blk_set (h.grown0 hg)]; rfl
  · rw [show bys (o ++ t) = bys o ++ bys t by simp [bys], List.length_append, ← hn]
    exact own_set hown rfl _
theorem Kw.apps {a w : World} {B : Nat} {ov : Value} (hk : Kw B ov a w) {w1 : World} (hg : w.grownBy w1 ov.ownBlock) : Kw B ov a w1 :=
  ⟨hk.env.grown hg (by omega) (fun _ _ => by omega), fun k hk' hB' ho => by
    have hs := hk.env.size
    rw [hg.block k (by omega) ho]
    exact hk.blk k hk' hB' ho⟩

set_option maxHeartbeats 1600000 in
theorem asIs1_any (w : World) (B : Nat) (ov : Value) (V L : Nat) (pv sv : Value) (q : Nat) (s : ByteArray) (h : Wb w B ov V L pv sv) (hq : w.heap[q]? = some (.cells #[.string s] 9 (0, 0))) (hs : s.size ≤ 65535) (hL : L ≤ 17179869184) :
    Calls Tryd.prog 84 #[.pointer (some ⟨B, 0, none⟩), .pointer (some ⟨q, 0, none⟩)] w fun e w' => e = .returned (.tuple #[]) ∧ ∃ ov', Wb w' B ov' (V + 2 ^ (L + 2 + lft (L + 2)) * (s.size + 65536 * (65535 - s.size) + 4294967296 * leN s.data.toList)) (L + 2 + lft (L + 2) + 32 + 8 * s.size) pv sv ∧ Kw B ov w w' ∧ Moved ov ov' w := by
  have HW := hid h
  have HQ := hid hq
  clear h hq
  go_enter Tryd.func84, Tryd.ntmps84
  obtain ⟨P, hP⟩ : ∃ P, P = L + 2 + lft (L + 2) := ⟨_, rfl⟩
  have hP8 : P % 8 = 0 := by rw [hP]; unfold lft; omega
  have hPL : P ≤ L + 9 := by rw [hP]; unfold lft; omega
  have HP := hid hP
  clear hP
  have e16 : (2 : Nat) ^ 16 = 65536 := by decide
  have HF1 : Hid True := trivial
  have HF3 : Hid True := trivial
  have HN1 : Hid (Calls Tryd.prog 66 #[.pointer (some ⟨B, 0, none⟩), .int .i64 0, .int .i64 2] w fun e w' => e = .returned (.tuple #[]) ∧ ∃ ov', Wb w' B ov' V (L + 2) pv sv ∧ Kw B ov w w' ∧ Moved ov ov' w) := by
    have := wnum_any w B ov V L pv sv 0 2 HW.out (by decide) (by omega) (by omega)
    rw [Nat.mul_zero, Nat.add_zero] at this
    exact this
  go_upto_region 4 with (first | (go_at_call 66; have hflag := HF1; refine HN1.out.mono ?_; rintro e w1 ⟨rfl, o1, hb1, hk1, hm1⟩; have HW1 := hid hb1; have HK1 := hid hk1; have HM1 := hid hm1; clear hb1 hk1 hm1 hflag HF1) | (go_at_call 48; refine (wend_any _ B o1 V (L + 2) pv sv HW1.out (by omega)).mono ?_; rintro e w2 ⟨rfl, o2, hb2, hk2, hm2⟩; rw [← HP.out] at hb2; have hq2 : w2.heap[q]? = some (.cells #[.string s] 9 (0, 0)) := hk2.cells HW1.out (HK1.out.cells HW.out HQ.out (by decide) (by decide)) (by decide) (by decide); have cq : w2.cell? ⟨q, 0, none⟩ = some (.string s) := (by rw [cell_of_row w2 q 0 _ 9 (0, 0) hq2]; rfl); have HW2 := hid hb2; have HK2 := hid hk2; have HM2 := hid hm2; have HQ2 := hid hq2; clear hb2 hk2 hm2 hq2) | (go_at_call 66; have hflag := HF3; refine (wnum_any _ B o2 V P pv sv s.size 16 HW2.out (by omega) (by omega) (by omega)).mono ?_; rintro e w3 ⟨rfl, o3, hb3, hk3, hm3⟩; have hq3 : w3.heap[q]? = some (.cells #[.string s] 9 (0, 0)) := hk3.cells HW2.out HQ2.out (by decide) (by decide); have cq3 : w3.cell? ⟨q, 0, none⟩ = some (.string s) := (by rw [cell_of_row w3 q 0 _ 9 (0, 0) hq3]; rfl); have HW3 := hid hb3; have HK3 := hid hk3; have HM3 := hid hm3; have HQ3 := hid hq3; clear hb3 hk3 hm3 hq3 hflag HF3) | (go_at_call 66; have h4 := wnum_any w3 B o3 _ _ pv sv (65535 - s.size) 16 HW3.out (by omega) (by omega) (by omega); rw [show ((65535 - s.size : Nat) : Int) = 65535 - (s.size : Int) by omega] at h4; refine h4.mono ?_; clear h4; rintro e w4 ⟨rfl, o4, hb4, hk4, hm4⟩; have hq4 : w4.heap[q]? = some (.cells #[.string s] 9 (0, 0)) := hk4.cells HW3.out HQ3.out (by decide) (by decide); have cq4 : w4.cell? ⟨q, 0, none⟩ = some (.string s) := (by rw [cell_of_row w4 q 0 _ 9 (0, 0) hq4]; rfl); have HW4 := hid hb4; have HK4 := hid hk4; have HM4 := hid hm4; clear hb4 hk4 hm4 hq4))
  obtain ⟨o, g, c, hWr, hc, hg, hV, hLL⟩ := HW4.out.st
  obtain rfl : c = 0 := by omega
  obtain rfl : g = 0 := by have : (2 : Nat) ^ 0 = 1 := rfl; omega
  obtain ⟨ao, cp, rfl⟩ := hWr.shape
  have hol : o.length ≤ 4294967296 := by omega
  have HWr := hid hWr
  have HV := hid hV
  have HLL := hid hLL
  have c0 := hWr.cell.1
  have hBl := hWr.lt
  have HC1 : Hid (w4.drew.ownsRow (B + 1) 5 1 (.slice ao o.length cp) o.length (bys o)) := hWr.own
  have HC3 : Hid (o.length + s.size ≤ maxLen) := by show _ ≤ _; unfold maxLen; omega
  have HC4 : Hid (B + 1 ≤ w4.drew.heap.size) := by show _ ≤ _; simp; omega
  clear hWr hV hLL hg cq cq3
  go_region_law
    ((refine step_append_string _ (by rfl) _ _ (by rfl) (B + 1) (.slice ao o.length cp) o.length (bys o) (by rfl) HC1.out s (by rfl) HC3.out (by omega) HC4.out ?_; intro v' w5 hown5 hgrow hat; obtain ⟨va, vc, rfl⟩ := row_shape hown5; have hgw : w4.grownBy w5 (Value.slice ao o.length cp).ownBlock := ⟨hgrow.os, hgrow.tape, hgrow.output, hgrow.size, hgrow.block⟩; have hblk := HWr.out.grown0 hgw; have c0' : w5.cell? ⟨B, 0, none⟩ = some (.slice ao o.length cp) := (by rw [cell_of_row w5 B 0 _ 81 (0, 0) hblk]; rfl); have f0' : w5.frozen? ⟨B, 0, none⟩ = false := (by simp [World.frozen?, hblk]); clear hblk))
  all_goals
    have hsl : s.data.toList.length = s.size := by rw [Array.length_toList]; rfl
    have hW5 := HWr.out.apps (t := s.data.toList) (by rw [hsl]) hown5 hgw
    have HW5 := hid hW5
    clear hW5 c0 c0' f0'
    go_wp2
    go_end0
    refine ⟨rfl, .slice va (o.length + s.size) vc, ⟨o ++ s.data.toList, 0, 0, HW5.out, by omega, by decide, ?_, ?_⟩, ?_, ?_⟩
    · have hV : V + 2 ^ P * s.size + 2 ^ (P + 16) * (65535 - s.size) = leN o := by have := HV.out; simpa using this
      have h256 : 256 ^ o.length = 2 ^ (P + 32) := by rw [pow256]; congr 1; have := HLL.out; omega
      have e32 : (2 : Nat) ^ 32 = 4294967296 := by decide
      rw [leN_append, ← HP.out, ← hV, h256, Nat.pow_add 2 P 16, Nat.pow_add 2 P 32, show (2 : Nat) ^ 16 = 65536 by decide, e32]
      simp only [Nat.mul_add, Nat.mul_assoc, Nat.add_assoc, Nat.mul_zero, Nat.add_zero]
    · have := HLL.out
      rw [List.length_append, hsl, ← HP.out]
      omega
    · exact (((HK1.out.trans HM1.out HK2.out).trans (HM1.out.trans HK1.out.env.size HM2.out) HK3.out).trans ((HM1.out.trans HK1.out.env.size HM2.out).trans (HK1.out.trans HM1.out HK2.out).env.size HM3.out) HK4.out).trans (((HM1.out.trans HK1.out.env.size HM2.out).trans (HK1.out.trans HM1.out HK2.out).env.size HM3.out).trans ((HK1.out.trans HM1.out HK2.out).trans (HM1.out.trans HK1.out.env.size HM2.out) HK3.out).env.size HM4.out) (((Kw.refl _ _ w4).apps hgw).set 0 _)
    · refine ((((HM1.out.trans HK1.out.env.size HM2.out).trans (HK1.out.trans HM1.out HK2.out).env.size HM3.out).trans ((HK1.out.trans HM1.out HK2.out).trans (HM1.out.trans HK1.out.env.size HM2.out) HK3.out).env.size HM4.out)).trans (((HK1.out.trans HM1.out HK2.out).trans (HM1.out.trans HK1.out.env.size HM2.out) HK3.out).trans ((HM1.out.trans HK1.out.env.size HM2.out).trans (HK1.out.trans HM1.out HK2.out).env.size HM3.out) HK4.out).env.size ?_
      rcases hat with h | h
      · exact .inl h
      · exact .inr ⟨w4.heap.size, Nat.le_refl _, h⟩
end Go.Proofs.YthdmjmnkhlpnnaaDoor
