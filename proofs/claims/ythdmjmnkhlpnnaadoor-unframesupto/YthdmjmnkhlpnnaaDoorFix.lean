/-
  The fixed codes: the program's Reader.fixedCodes.
-/
import Derived.Test.YthdmjmnkhlpnnaaDoorCat
import Derived.Test.YthdmjmnkhlpnnaaDoorOwn
import Derived.Test.YthdmjmnkhlpnnaaDoorAsis
namespace Go.Proofs.YthdmjmnkhlpnnaaDoor
open Go.RowKit

/-- the fixed codes are not there yet, or they are right -/
def FxOk (w : World) (fx : Option Addr) : Prop := fx = none ∨ ∃ F, fx = some ⟨F, 0, none⟩ ∧ Cds w F zfa zfb
theorem FxOk.kp {X : TypeId} {B : Nat} {w w' : World} {fx : Option Addr} (h : FxOk w fx) (hk : Kp X B w w') (hX : X = 63 ∨ X = 42) : FxOk w' fx := by
  rcases h with h | ⟨F, h1, h2⟩
  · exact .inl h
  · exact .inr ⟨F, h1, h2.kp hk hX⟩
theorem Cds.below {w w' : World} {b : Nat} {za zb : List Int} (h : Cds w b za zb) (hb : Below w.heap.size w w') : Cds w' b za zb := by
  obtain ⟨x, y, h1, h2, h3⟩ := h
  exact ⟨x, y, (hb.block b (Array.getElem?_eq_some_iff.1 h1).1).trans h1, h2.below hb, h3.below hb⟩
theorem Cds.setRd {w : World} {B b : Nat} {za zb : List Int} {s : ByteArray} {p : Nat} {tv : Value} {t : List UInt8} {M : Int} {fx : Option Addr} (h : Cds w b za zb) (hr : Rd w B s p tv t M fx) (j : Nat) (u : Value) : Cds (w.setCell ⟨B, j, none⟩ u) b za zb :=
  h.kp ((Kp.refl 63 B w).setCell hr.blk rfl u) (.inl rfl)

set_option maxRecDepth 20000 in
set_option maxHeartbeats 1600000 in
theorem fixed_any (w : World) (B : Nat) (s : ByteArray) (p : Nat) (tv : Value) (t : List UInt8) (M : Int) (fx : Option Addr) (h : Rd w B s p tv t M fx) (hf : FxOk w fx) :
    Calls Tryd.prog 52 #[.pointer (some ⟨B, 0, none⟩)] w fun e w' => ∃ F, e = .returned (.pointer (some ⟨F, 0, none⟩)) ∧ Cds w' F zfa zfb ∧ Rd w' B s p tv t M (some ⟨F, 0, none⟩) ∧ Kp 63 B w w' := by
  obtain ⟨-, -, -, -, -, c5⟩ := h.cell
  have f5 := h.free 5
  have HR := hid h
  have hlt := h.lt
  clear h
  rcases hf with rfl | ⟨F, rfl, hc⟩
  · have HFL := hid (fixedLetters_any w)
    have HFS := hid (fun u => fixedSteps_any u)
    go_enter Tryd.func52, Tryd.ntmps52
    go_wp2_with (first
      | (go_at_call 76; refine HFL.out.mono ?_; rintro e w1 ⟨v1, rfl, ho1, hb1⟩; obtain ⟨ao, c, rfl, hseg1⟩ := owns_seg ho1; rw [zfa_length]; have HB1 := hid hb1; have HS1 := hid hseg1; clear ho1 hseg1 hb1)
      | (go_at_call 77; refine (HFS.out _).mono ?_; rintro e w3 ⟨g3, rfl, hg3, r3, hb3⟩; have HR3 := hid r3; have HB3 := hid hb3; clear r3 hb3)
      | (go_at_call 75; have f3 := HR3; refine (new_at (some ⟨g3, 0, none⟩) 32 _ zfb _ zfb_length (by exact HR3.out.seg) (by omega) zfb_ok).mono ?_; rintro e w4 ⟨b4, rfl, hg4, hc4, hb4⟩; have HC4 := hid hc4; have HB4 := hid hb4; clear hc4 hb4 f3; have hb14 : Below w.heap.size w w4 := ((HB1.out.trans (HB2.out.mono HB1.out.size)).trans (HB3.out.mono (Nat.le_trans HB1.out.size HB2.out.size))).trans (HB4.out.mono (Nat.le_trans (Nat.le_trans HB1.out.size HB2.out.size) HB3.out.size)); have m5 : w4.cell? ⟨B, 5, none⟩ = some (.pointer none) := (hb14.cell (p := ⟨B, 5, none⟩) hlt).trans c5; have m6 : w4.frozen? ⟨B, 5, none⟩ = false := (hb14.frozen (p := ⟨B, 5, none⟩) hlt).trans f5; have z4 : B < w4.heap.size := Nat.lt_of_lt_of_le hlt hb14.size; have HB14 := hid hb14; clear hb14)
      | (go_at_call 75; refine (new_at ao 288 _ zfa _ zfa_length (by exact HS1.out) (by omega) zfa_ok).mono ?_; rintro e w2 ⟨b2, rfl, hg2, hc2, hb2⟩; have HC2 := hid hc2; have HB2 := hid hb2; clear hc2 hb2))
    go_ret
    have R4 := HR.out.below HB14.out
    obtain ⟨W, hW⟩ : ∃ W, W = w4.setCell ⟨B, 5, none⟩ (.pointer (some ⟨w4.heap.size, 0, none⟩)) := ⟨_, rfl⟩
    have hsz : W.heap.size = w4.heap.size := by rw [hW]; simp [World.setCell]
    have RW : Rd W B s p tv t M (some ⟨w4.heap.size, 0, none⟩) := by
      rw [hW]
      exact ⟨by rw [blk_set R4.blk]; rfl, own_set R4.own rfl _, R4.sml, R4.fit, R4.len, R4.rom⟩
    have hkW : Kp 63 B w4 W := by rw [hW]; exact (Kp.refl 63 B w4).setCell R4.blk rfl _
    have C2 := ((HC2.out.below HB3.out).below HB4.out).kp hkW (.inl rfl)
    have C4 := HC4.out.kp hkW (.inl rfl)
    rw [← hW]
    obtain ⟨o, ho⟩ : ∃ o : Obj, o = Obj.cells #[.pointer (some ⟨b2, 0, none⟩), .pointer (some ⟨b4, 0, none⟩)] 114 := ⟨_, rfl⟩
    have hba : Below W.heap.size W (W.alloc o) := (Below.refl _ _).alloc (Nat.le_refl _) o
    have hnew := heap_alloc_new W o
    rw [hsz] at hnew
    have hk1 : Kp 63 B w w4 := Kp.ofBelow HB14.out (Nat.le_of_lt hlt)
    rw [← ho]
    refine ⟨w4.heap.size, rfl, ⟨b2, b4, ?_, C2.below hba, C4.below hba⟩, RW.alloc o, (hk1.trans hkW).alloc (Nat.le_of_lt RW.lt) o⟩
    rw [hnew, ho]
  · have HC := hid hc
    clear hc
    go_enter Tryd.func52, Tryd.ntmps52
    go_wp2
    go_ret
    exact ⟨F, rfl, HC.out, HR.out, Kp.refl _ _ _⟩
end Go.Proofs.YthdmjmnkhlpnnaaDoor
