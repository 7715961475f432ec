/-
  The packer's End and Take, New of level 0; Deflate at level 0.
-/
import Derived.Test.YthdmjmnkhlpnnaaDoorPka
namespace Go.Proofs.YthdmjmnkhlpnnaaDoor
open Go.RowKit

theorem Pk.drewN {w : World} {B V L : Nat} {t : List UInt8} {sv : Value} (h : Pk w B V L t sv) (n : Nat) : Pk (w.drewN n) B V L t sv := by
  obtain ⟨ov, pv, hWb, hpo, hne⟩ := h.st
  exact ⟨ov, pv, hWb.drewN n, hpo, hne⟩
theorem Pk.cells {w : World} {B V L : Nat} {t : List UInt8} {sv : Value} (h : Pk w B V L t sv) : ∃ ov pa pc, w.cell? ⟨B, 0, none⟩ = some ov ∧ w.cell? ⟨B, 3, none⟩ = some (.slice pa t.length pc) ∧ w.cell? ⟨B, 4, none⟩ = some sv ∧ w.frozen? ⟨B, 0, none⟩ = false ∧ w.frozen? ⟨B, 3, none⟩ = false ∧ w.frozen? ⟨B, 4, none⟩ = false := by
  obtain ⟨ov, pv, hWb, hpo, hne⟩ := h.st
  obtain ⟨o, g, c, hW, r⟩ := hWb.st
  obtain ⟨pa, pc, rfl⟩ := row_shape hpo
  exact ⟨ov, pa, pc, hW.cell.1, hW.cell.2.2.2.1, hW.cell.2.2.2.2, hW.free 0, hW.free 3, hW.free 4⟩
theorem Pk.lt {w : World} {B V L : Nat} {t : List UInt8} {sv : Value} (h : Pk w B V L t sv) : B < w.heap.size := by
  obtain ⟨ov, pv, hWb, hpo, hne⟩ := h.st
  exact hWb.lt
/-- both are nil -/
theorem Pk.nils {w : World} {B V L : Nat} {t : List UInt8} {sv : Value} (h : Pk w B V L t sv) : Pk ((w.setCell ⟨B, 3, none⟩ (.slice none 0 0)).setCell ⟨B, 4, none⟩ (.pointer none)) B V L [] (.pointer none) ∧ Kk B w ((w.setCell ⟨B, 3, none⟩ (.slice none 0 0)).setCell ⟨B, 4, none⟩ (.pointer none)) := by
  obtain ⟨ov, pv, hWb, hpo, hne⟩ := h.st
  obtain ⟨o, g, c, hW, r⟩ := hWb.st
  refine ⟨⟨ov, .slice none 0 0, ⟨o, g, c, ⟨?_, own_set (own_set hW.own rfl _) rfl _⟩, r⟩, ⟨rfl, Or.inl ⟨rfl, rfl⟩⟩, .inl rfl⟩, ?_⟩
  · rw [blk_set (blk_set hW.blk _ _) _ _]; rfl
  · refine ⟨((Below.refl _ _).setCell (Nat.le_refl B) _).setCell (Nat.le_refl B) _, fun k cs T fr hk h1 _ => ?_⟩
    have hkB : k ≠ B := fun e => by
      subst e
      rw [hW.blk] at hk
      injection hk with hk; injection hk with _ hk _; exact h1 hk.symm
    rw [Below.heap_setCell _ _ _ _ (by exact hkB), Below.heap_setCell _ _ _ _ (by exact hkB)]
theorem pend_any (w : World) (B : Nat) (V L : Nat) (t : List UInt8) (sv : Value) (h : Pk w B V L t sv) (h8 : L % 8 = 0) (hL : L ≤ 34359738368) :
    Calls Tryd.prog 48 #[.pointer (some ⟨B, 0, none⟩)] w fun e w' => e = .returned (.tuple #[]) ∧ Pk w' B V L t sv ∧ Kk B w w' := by
  obtain ⟨ov, pv, hWb, hpo, hne⟩ := h.st
  refine (wend_any w B ov V L pv sv hWb hL).mono ?_
  rintro e w' ⟨rfl, ov', hb, hk, hm⟩
  rw [show L + lft L = L by unfold lft; omega] at hb
  exact ⟨rfl, ⟨ov', pv, hb, own_kw hpo hk hne, ne_moved hpo hm hne⟩, hk.kk hWb⟩

set_option maxRecDepth 20000 in
set_option maxHeartbeats 1600000 in
theorem end0_any (w : World) (B : Nat) (V L : Nat) (t : List UInt8) (h : Pk w B V L t (.pointer none)) (ht : t.length ≤ 65535) (hL : L ≤ 8589934592) :
    Calls Tryd.prog 30 #[.pointer (some ⟨B, 0, none⟩)] w fun e w' => e = .returned (.tuple #[]) ∧ Pk w' B (blV V L t true) (blL L t.length) [] (.pointer none) ∧ Kk B w w' := by
  have HB : Hid (Calls Tryd.prog 47 #[.pointer (some ⟨B, 0, none⟩), .bool true] w fun e w' => e = .returned (.tuple #[]) ∧ Pk w' B (blV V L t true) (blL L t.length) [] (.pointer none) ∧ Kk B w w') := block0_any w B V L t true h ht hL
  obtain ⟨V2, hV2⟩ : ∃ x, x = blV V L t true := ⟨_, rfl⟩
  obtain ⟨L2, hL2⟩ : ∃ x, x = blL L t.length := ⟨_, rfl⟩
  have h8 : L2 % 8 = 0 := by rw [hL2]; unfold blL lft; omega
  have hL3 : L2 ≤ 34359738368 := by rw [hL2]; unfold blL lft; omega
  rw [← hV2, ← hL2] at HB ⊢
  clear hV2 hL2 h
  go_enter Tryd.func30, Tryd.ntmps30
  go_wp2_with (first | (go_at_call 47; refine HB.out.mono ?_; rintro e w1 ⟨rfl, hp1, hk1⟩; have HP1 := hid hp1; have HK1 := hid hk1; clear hp1 hk1) | (go_at_call 48; refine (pend_any w1 B V2 L2 [] _ HP1.out h8 hL3).mono ?_; rintro e w2 ⟨rfl, hp2, hk2⟩; have HP2 := hid hp2; have HK2 := hid hk2; obtain ⟨ov2, pa2, pc2, c0, c3, c4, f0, f3, f4⟩ := hp2.cells; clear hp2 hk2))
  go_end0
  exact ⟨rfl, HP2.out.nils.1, (HK1.out.trans HK2.out).trans HP2.out.nils.2⟩

set_option maxHeartbeats 800000 in
theorem take_any (w : World) (B : Nat) (V L : Nat) (t : List UInt8) (sv : Value) (h : Pk w B V L t sv) :
    Calls Tryd.prog 31 #[.pointer (some ⟨B, 0, none⟩)] w fun e w' => ∃ (o : List UInt8) (g c : Nat), e = .returned (.string ⟨o.toArray⟩) ∧ c < 8 ∧ g < 2 ^ c ∧ V = leN o + 256 ^ o.length * g ∧ L = 8 * o.length + c ∧ Pk w' B g c t sv ∧ Kk B w w' := by
  obtain ⟨ov, pv, hWb, hpo, hne⟩ := h.st
  obtain ⟨o, g, c, hW, hc, hg, hV, hL⟩ := hWb.st
  have c0 := hW.cell.1
  have f0 := hW.free 0
  have hcv := bytes_run hW.own
  have HFIN : Hid (Pk (w.setCell ⟨B, 0, none⟩ (.slice none 0 0)) B g c t sv ∧ Kk B w (w.setCell ⟨B, 0, none⟩ (.slice none 0 0))) := by
    refine ⟨⟨.slice none 0 0, pv, ⟨[], g, c, ⟨by rw [blk_set hW.blk]; rfl, ⟨rfl, Or.inl ⟨rfl, rfl⟩⟩⟩, hc, hg, by simp [leN], by simp⟩, own_set hpo rfl _, ?_⟩, ?_⟩
    · cases hb : pv.ownBlock with
      | none => exact .inl rfl
      | some k => exact .inr (by simp [Value.ownBlock])
    · refine ⟨(Below.refl _ _).setCell (Nat.le_refl B) _, fun k cs T fr hk h1 _ => Below.heap_setCell _ _ _ _ (fun e => ?_)⟩
      have e' : k = B := e
      subst e'
      rw [hW.blk] at hk
      injection hk with hk; injection hk with _ hk _; exact h1 hk.symm
  have HRE := hid (And.intro hc (And.intro hg (And.intro hV hL)))
  obtain ⟨ao, cp, rfl⟩ := hW.shape
  clear h hWb hpo hne hW hc hg hV hL
  go_enter Tryd.func31, Tryd.ntmps31
  go_wp2
  go_ret
  exact ⟨o, g, c, rfl, HRE.out.1, HRE.out.2.1, HRE.out.2.2.1, HRE.out.2.2.2, HFIN.out.1, HFIN.out.2⟩

theorem new0_any (w : World) :
    Calls Tryd.prog 28 #[.int .i64 0] w fun e w' => e = .returned (.pointer (some ⟨w.heap.size, 0, none⟩)) ∧ Pk w' w.heap.size 0 0 [] (.pointer none) ∧ Below w.heap.size w w' := by
  have HN : Hid (Pk (w.alloc (.cells #[.slice none 0 0, .int .u64 0, .int .i64 0, .slice none 0 0, .pointer none] 81)) w.heap.size 0 0 [] (.pointer none)) :=
    ⟨.slice none 0 0, .slice none 0 0, ⟨[], 0, 0, ⟨heap_alloc_new w _, ⟨rfl, Or.inl ⟨rfl, rfl⟩⟩⟩, by omega, by decide, by simp [leN], by simp⟩, ⟨rfl, Or.inl ⟨rfl, rfl⟩⟩, .inl rfl⟩
  have HB : Hid (Below w.heap.size w (w.alloc (.cells #[.slice none 0 0, .int .u64 0, .int .i64 0, .slice none 0 0, .pointer none] 81))) := (Below.refl _ _).alloc (Nat.le_refl _) _
  go_enter Tryd.func28, Tryd.ntmps28
  go_wp2
  go_ret
  exact ⟨rfl, HN.out, HB.out⟩
end Go.Proofs.YthdmjmnkhlpnnaaDoor
