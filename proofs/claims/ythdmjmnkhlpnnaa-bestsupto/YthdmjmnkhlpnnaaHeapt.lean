/-
  What Take does.
-/
import Derived.Test.YthdmjmnkhlpnnaaHeapf
namespace Go.Proofs.Ythdmjmnkhlpnnaa
open Go.RowKit

/-- the heap's slice is cut -/
theorem Heap.cut {w : World} {hb g m cap : Nat} {qs : List Pc} (h : Heap w hb (.slice (some ⟨g, 0, none⟩) (m + 1) cap) qs) (hq : qs.length = m + 1) :
    Heap (w.setCell ⟨hb, 0, none⟩ (.slice (some ⟨g, 0, none⟩) m cap)) hb (.slice (some ⟨g, 0, none⟩) m cap) (qs.take m) := by
  rcases h.own.2 with ⟨e, _⟩ | ⟨g', cap', cur, e, hb', hg, hnc, hcm, hcs, ht⟩
  · cases e
  · injection e with e1 e2 e3
    injection e1 with e1
    injection e1 with e1
    subst e1 e3
    have hl : (qs.take m).length = m := by simp [hq]
    refine ⟨?_, ?_⟩
    · rw [setCell_eq_setRow w hb 0 #[.slice (some ⟨g, 0, none⟩) (m + 1) cap, .func (.func 46) #[] #[]] 73 (0, 0) _ h.blk]
      exact setRow_heap w hb #[.slice (some ⟨g, 0, none⟩) (m + 1) cap, .func (.func 46) #[] #[]] _ 73 _ h.blk
    · refine ⟨by rw [flat_length], .inr ⟨g, cap, cur, by rw [hl], hb', ?_, by rw [hl]; omega, hcm, hcs, ?_⟩⟩
      · rw [Below.heap_setCell _ _ _ _ (by simp; omega)]; exact hg
      · rw [hl, ← flat_take, ← ht, List.take_take, hq]
        congr 1
        omega

theorem results42 : Try.f43.results = #[.cell 2 58, .tmp 3] := by kernel_rfl
theorem info58s : (Try.prog.info? 58).map (·.size) = some 2 := by kernel_rfl

set_option maxRecDepth 20000 in
set_option maxHeartbeats 2000000 in
theorem take_none {w : World} {hb : Nat} {iv : Value} (h : Heap w hb iv []) :
    Calls Try.prog 43 #[.pointer (some ⟨hb, 0, none⟩)] w fun e w' => e = .returned (.tuple #[pagg Pc.zero, .bool false]) ∧ Heap w' hb iv [] ∧ Below w.heap.size w w' := by
  have HH := hid h
  obtain ⟨ia, ic, hiv, _⟩ := owns_shape h.own
  have c0 := h.cell0
  rw [hiv] at c0
  have hlt := h.lt
  clear h hiv
  go_enter Try.func43, Try.ntmps43
  go_wp2
  have hb2 : ∀ A B : Obj, Below w.heap.size w ((w.alloc A).alloc B) := fun A B => ((Below.refl _ _).alloc (Nat.le_refl _) A).alloc (by simp) B
  exact bodyPost_ret (v := .tuple #[.agg #[.int .i64 0, .slice none 0 0], .bool false]) (by simp [results, Try.results43, go_sem]) rfl ⟨rfl, HH.out.below (hb2 _ _), hb2 _ _⟩

theorem take_perm {ps : List Pc} {m : Nat} (hm : 0 < m) (hl : ps.length = m + 1) : (ps.getD 0 Pc.zero :: ((ps.set 0 (ps.getD m Pc.zero)).set m Pc.zero).take m).Perm ps ∧ ∃ mid, ((ps.set 0 (ps.getD m Pc.zero)).set m Pc.zero).take m = ps.getD m Pc.zero :: mid ∧ ps = ps.getD 0 Pc.zero :: mid ++ [ps.getD m Pc.zero] := by
  cases ps with
  | nil => simp at hl
  | cons p0 rest =>
    rcases List.eq_nil_or_concat rest with rfl | ⟨mid, pl, rfl⟩
    · simp at hl; omega
    · have hml : mid.length + 1 = m := by simp at hl; omega
      subst hml
      have e1 : (p0 :: mid.concat pl).getD (mid.length + 1) Pc.zero = pl := by simp
      have e2 : (p0 :: mid.concat pl).getD 0 Pc.zero = p0 := rfl
      have e3 : (((p0 :: mid.concat pl).set 0 pl).set (mid.length + 1) Pc.zero).take (mid.length + 1) = pl :: mid := by
        simp
      rw [e1, e2, e3]
      refine ⟨?_, mid, rfl, by simp⟩
      rw [List.concat_eq_append]
      exact List.Perm.cons _ (List.perm_append_comm (l₁ := [pl]) (l₂ := mid))

theorem old3 {w : World} {b o : Nat} {v : Value} (h : w.cell? ⟨b, o, none⟩ = some v) : ∀ A B C : Obj, (((w.alloc A).alloc B).alloc C).cell? ⟨b, o, none⟩ = some v := fun A B C => by
  have hb : b < w.heap.size := World.block_lt_of_cell? w _ h
  have h3 : Below w.heap.size w (((w.alloc A).alloc B).alloc C) := (((Below.refl _ _).alloc (Nat.le_refl _) A).alloc (by simp) B).alloc (by simp; omega) C
  exact (h3.cell (p := ⟨b, o, none⟩) hb).trans h
theorem old3f {w : World} {b o : Nat} (hb : b < w.heap.size) (h : w.frozen? ⟨b, o, none⟩ = false) : ∀ A B C : Obj, (((w.alloc A).alloc B).alloc C).frozen? ⟨b, o, none⟩ = false := fun A B C => by
  have h3 : Below w.heap.size w (((w.alloc A).alloc B).alloc C) := (((Below.refl _ _).alloc (Nat.le_refl _) A).alloc (by simp) B).alloc (by simp; omega) C
  exact (h3.frozen (p := ⟨b, o, none⟩) hb).trans h

theorem take_heap {W : World} {hb g m cap : Nat} {iv : Value} {ps : List Pc} {pl : Pc} (h : Heap W hb iv ps) (e : iv = .slice (some ⟨g, 0, none⟩) ps.length cap) (hl : ps.length = m + 1) :
    Heap (((((W.setCell ⟨g, 0, none⟩ (.int .i64 pl.wt)).setCell ⟨g, 1, none⟩ (.slice pl.ao pl.sy.length pl.c)).setCell ⟨g, m * 2, none⟩ (.int .i64 0)).setCell ⟨g, m * 2 + 1, none⟩ (.slice none 0 0)).setCell ⟨hb, 0, none⟩ (.slice (some ⟨g, 0, none⟩) m cap)).drew.drew hb (.slice (some ⟨g, 0, none⟩) m cap) (((ps.set 0 pl).set m Pc.zero).take m) ∧
    Only hb iv W (((((W.setCell ⟨g, 0, none⟩ (.int .i64 pl.wt)).setCell ⟨g, 1, none⟩ (.slice pl.ao pl.sy.length pl.c)).setCell ⟨g, m * 2, none⟩ (.int .i64 0)).setCell ⟨g, m * 2 + 1, none⟩ (.slice none 0 0)).setCell ⟨hb, 0, none⟩ (.slice (some ⟨g, 0, none⟩) m cap)).drew.drew := by
  have hob : iv.ownBlock = some g := by rw [e]; rfl
  have h1 := h.put e 0 pl
  have h2 := h1.put (g := g) (cap := cap) (by rw [e]; simp) m Pc.zero
  have h3 : Heap ((((W.setCell ⟨g, 0, none⟩ (.int .i64 pl.wt)).setCell ⟨g, 1, none⟩ (.slice pl.ao pl.sy.length pl.c)).setCell ⟨g, m * 2, none⟩ (.int .i64 0)).setCell ⟨g, m * 2 + 1, none⟩ (.slice none 0 0)) hb (.slice (some ⟨g, 0, none⟩) (m + 1) cap) ((ps.set 0 pl).set m Pc.zero) := by
    rw [e, hl] at h2
    exact h2
  refine ⟨((h3.cut (by simp [hl])).below (Below.refl _ _).drew).below (Below.refl _ _).drew, ?_⟩
  have o1 := ((((Only.refl hb iv W).set hob 0 (.int .i64 pl.wt)).set hob 1 (.slice pl.ao pl.sy.length pl.c)).set hob (m * 2) (.int .i64 0)).set hob (m * 2 + 1) (.slice none 0 0)
  have o2 : Only hb iv W (((((W.setCell ⟨g, 0, none⟩ (.int .i64 pl.wt)).setCell ⟨g, 1, none⟩ (.slice pl.ao pl.sy.length pl.c)).setCell ⟨g, m * 2, none⟩ (.int .i64 0)).setCell ⟨g, m * 2 + 1, none⟩ (.slice none 0 0)).setCell ⟨hb, 0, none⟩ (.slice (some ⟨g, 0, none⟩) m cap)) :=
    o1.trans ⟨rfl, rfl, rfl, by simp [World.setCell], fun k _ h2 _ => Below.heap_setCell _ _ _ _ h2⟩
  exact (o2.below (Below.refl _ _).drew).below (Below.refl _ _).drew
theorem only_cell {hb b o : Nat} {iv : Value} {w w' : World} (h : Only hb iv w w') (hb' : b ≠ hb) (hi : iv.ownBlock ≠ some b) {v : Value} (hv : w.cell? ⟨b, o, none⟩ = some v) : w'.cell? ⟨b, o, none⟩ = some v :=
  (World.cell?_of_block (w := w) (a := ⟨b, o, none⟩) (h.block b (World.block_lt_of_cell? w _ hv) hb' hi)).trans hv
theorem only_free {hb b o : Nat} {iv : Value} {w w' : World} (h : Only hb iv w w') (hb' : b ≠ hb) (hi : iv.ownBlock ≠ some b) (hlt : b < w.heap.size) (hv : w.frozen? ⟨b, o, none⟩ = false) : w'.frozen? ⟨b, o, none⟩ = false :=
  (World.frozen?_of_block (w := w) (a := ⟨b, o, none⟩) (h.block b hlt hb' hi)).trans hv
theorem only_own {hb : Nat} {iv iv' : Value} {w w' : World} (h : Only hb iv w w') (e : iv.ownBlock = iv'.ownBlock) : Only hb iv' w w' :=
  ⟨h.os, h.tape, h.output, h.size, fun k h1 h2 h3 => h.block k h1 h2 (e ▸ h3)⟩

theorem boxes (w : World) (A B C : Array Value) : (∀ j v, A[j]? = some v → (((w.alloc (.cells A 58)).alloc (.cells B 58)).alloc (.cells C 58)).cell? ⟨w.heap.size, j, none⟩ = some v ∧ (((w.alloc (.cells A 58)).alloc (.cells B 58)).alloc (.cells C 58)).frozen? ⟨w.heap.size, j, none⟩ = false) ∧
    (∀ j v, B[j]? = some v → (((w.alloc (.cells A 58)).alloc (.cells B 58)).alloc (.cells C 58)).cell? ⟨w.heap.size + 1, j, none⟩ = some v) ∧
    (∀ j v, C[j]? = some v → (((w.alloc (.cells A 58)).alloc (.cells B 58)).alloc (.cells C 58)).cell? ⟨w.heap.size + 1 + 1, j, none⟩ = some v) ∧ Below w.heap.size w (((w.alloc (.cells A 58)).alloc (.cells B 58)).alloc (.cells C 58)) := by
  have h3 : Below w.heap.size w (((w.alloc (.cells A 58)).alloc (.cells B 58)).alloc (.cells C 58)) := (((Below.refl _ _).alloc (Nat.le_refl _) _).alloc (by simp) _).alloc (by simp; omega) _
  have e1 : (((w.alloc (.cells A 58)).alloc (.cells B 58)).alloc (.cells C 58)).heap[w.heap.size]? = some (.cells A 58 (0, 0)) := by
    rw [Below.heap_alloc _ _ _ (by simp; omega), Below.heap_alloc _ _ _ (by simp)]; exact heap_alloc_new w _
  have e2 : (((w.alloc (.cells A 58)).alloc (.cells B 58)).alloc (.cells C 58)).heap[w.heap.size + 1]? = some (.cells B 58 (0, 0)) := by
    rw [Below.heap_alloc _ _ _ (by simp)]
    have := heap_alloc_new (w.alloc (.cells A 58)) (.cells B 58)
    simpa using this
  have e3 : (((w.alloc (.cells A 58)).alloc (.cells B 58)).alloc (.cells C 58)).heap[w.heap.size + 1 + 1]? = some (.cells C 58 (0, 0)) := by
    have := heap_alloc_new ((w.alloc (.cells A 58)).alloc (.cells B 58)) (.cells C 58)
    simpa using this
  exact ⟨fun j v hv => ⟨by rw [cell_of_row _ _ j A 58 (0, 0) e1, hv], by simp [World.frozen?, e1]⟩, fun j v hv => by rw [cell_of_row _ _ j B 58 (0, 0) e2, hv], fun j v hv => by rw [cell_of_row _ _ j C 58 (0, 0) e3, hv], h3⟩

set_option maxRecDepth 20000 in
set_option maxHeartbeats 4000000 in
theorem take_many {w : World} {hb : Nat} {iv : Value} {ps : List Pc} (h : Heap w hb iv ps) (ho : HO ps) (hn : ps.length ≤ 1000000) (m : Nat) (hm : 0 < m) (hl : ps.length = m + 1) :
    Calls Try.prog 43 #[.pointer (some ⟨hb, 0, none⟩)] w fun e w' => e = .returned (.tuple #[pagg (ps.getD 0 Pc.zero), .bool true]) ∧ ∃ iv' ps', Heap w' hb iv' ps' ∧ (ps.getD 0 Pc.zero :: ps').Perm ps ∧ HO ps' ∧ Only hb iv w w' ∧ iv'.ownBlock = iv.ownBlock ∧ TakP ps ps' := by
  have HH := hid h
  have HHO := hid ho
  obtain ⟨g, cap, cur, e, hbg, hg, hnc, hcm, hcs, ht⟩ := h.at (by omega)
  have c0 := h.cell0
  rw [e, hl] at c0
  have f0 := h.free 0
  obtain ⟨a1, a2, a3, a4⟩ := row_get hg ht (show 0 < ps.length by omega)
  obtain ⟨l1, l2, l3, l4⟩ := row_get hg ht (show m < ps.length by omega)
  obtain ⟨p0, hp0⟩ : ∃ q, q = ps.getD 0 Pc.zero := ⟨_, rfl⟩
  obtain ⟨pl, hpl⟩ : ∃ q, q = ps.getD m Pc.zero := ⟨_, rfl⟩
  rw [← hp0] at a1 a2 ⊢
  rw [← hpl] at l1 l2
  rw [Nat.zero_mul] at a1 a2 a3 a4
  rw [Nat.zero_add] at a2 a4
  have HP0 := hid hp0
  have HPL := hid hpl
  have HE := hid e
  have HL := hid hl
  have zb := h.lt
  have zg : g < w.heap.size := (Array.getElem?_eq_some_iff.1 hg).1
  have hm2 : m < 1000000 := by omega
  have hmc : m ≤ cap := by omega
  clear h ho hp0 hpl e hg hnc hcm hcs ht hl hn
  have c0' := old3 c0
  have f0' := old3f zb f0
  have a1' := old3 a1
  have a2' := old3 a2
  have a3' := old3f zg a3
  have a4' := old3f zg a4
  have l1' := old3 l1
  have l2' := old3 l2
  have l3' := old3f zg l3
  have l4' := old3f zg l4
  have hbg' : hb ≠ g := by omega
  go_enter Try.func43, Try.ntmps43
  go_wp2
  have BX := boxes w #[.int .i64 0, .slice none 0 0] #[.int .i64 0, .slice none 0 0] #[.int .i64 p0.wt, .slice p0.ao p0.sy.length p0.c]
  have k0 := c0' (.cells #[.int .i64 0, .slice none 0 0] 58) (.cells #[.int .i64 0, .slice none 0 0] 58) (.cells #[.int .i64 p0.wt, .slice p0.ao p0.sy.length p0.c] 58)
  have k1 := f0' (.cells #[.int .i64 0, .slice none 0 0] 58) (.cells #[.int .i64 0, .slice none 0 0] 58) (.cells #[.int .i64 p0.wt, .slice p0.ao p0.sy.length p0.c] 58)
  have k2 := a1' (.cells #[.int .i64 0, .slice none 0 0] 58) (.cells #[.int .i64 0, .slice none 0 0] 58) (.cells #[.int .i64 p0.wt, .slice p0.ao p0.sy.length p0.c] 58)
  have k3 := a2' (.cells #[.int .i64 0, .slice none 0 0] 58) (.cells #[.int .i64 0, .slice none 0 0] 58) (.cells #[.int .i64 p0.wt, .slice p0.ao p0.sy.length p0.c] 58)
  have k4 := a3' (.cells #[.int .i64 0, .slice none 0 0] 58) (.cells #[.int .i64 0, .slice none 0 0] 58) (.cells #[.int .i64 p0.wt, .slice p0.ao p0.sy.length p0.c] 58)
  have k5 := a4' (.cells #[.int .i64 0, .slice none 0 0] 58) (.cells #[.int .i64 0, .slice none 0 0] 58) (.cells #[.int .i64 p0.wt, .slice p0.ao p0.sy.length p0.c] 58)
  have k6 := l1' (.cells #[.int .i64 0, .slice none 0 0] 58) (.cells #[.int .i64 0, .slice none 0 0] 58) (.cells #[.int .i64 p0.wt, .slice p0.ao p0.sy.length p0.c] 58)
  have k7 := l2' (.cells #[.int .i64 0, .slice none 0 0] 58) (.cells #[.int .i64 0, .slice none 0 0] 58) (.cells #[.int .i64 p0.wt, .slice p0.ao p0.sy.length p0.c] 58)
  have k8 := l3' (.cells #[.int .i64 0, .slice none 0 0] 58) (.cells #[.int .i64 0, .slice none 0 0] 58) (.cells #[.int .i64 p0.wt, .slice p0.ao p0.sy.length p0.c] 58)
  have k9 := l4' (.cells #[.int .i64 0, .slice none 0 0] 58) (.cells #[.int .i64 0, .slice none 0 0] 58) (.cells #[.int .i64 p0.wt, .slice p0.ao p0.sy.length p0.c] 58)
  obtain ⟨W, hW⟩ : ∃ W, W = ((w.alloc (.cells #[.int .i64 0, .slice none 0 0] 58)).alloc (.cells #[.int .i64 0, .slice none 0 0] 58)).alloc (.cells #[.int .i64 p0.wt, .slice p0.ao p0.sy.length p0.c] 58) := ⟨_, rfl⟩
  rw [← hW] at BX k0 k1 k2 k3 k4 k5 k6 k7 k8 k9 ⊢
  clear hW c0' f0' a1' a2' a3' a4' l1' l2' l3' l4' c0 f0 a1 a2 a3 a4 l1 l2 l3 l4
  obtain ⟨B1, B2, B3, B4⟩ := BX
  have r0 : W.cell? ⟨w.heap.size, 0, none⟩ = some (.int .i64 0) := (B1 0 _ rfl).1
  have r1 : W.cell? ⟨w.heap.size, 1, none⟩ = some (.slice none 0 0) := (B1 1 _ rfl).1
  have s0 := (B1 0 _ rfl).2
  have s1 := (B1 1 _ rfl).2
  have n0 : W.cell? ⟨w.heap.size + 1, 0, none⟩ = some (.int .i64 0) := B2 0 _ rfl
  have n1 : W.cell? ⟨w.heap.size + 1, 1, none⟩ = some (.slice none 0 0) := B2 1 _ rfl
  have x0 : W.cell? ⟨w.heap.size + 1 + 1, 0, none⟩ = some (.int .i64 p0.wt) := B3 0 _ rfl
  have x1 : W.cell? ⟨w.heap.size + 1 + 1, 1, none⟩ = some (.slice p0.ao p0.sy.length p0.c) := B3 1 _ rfl
  have HB4 := hid B4
  clear B1 B2 B3 B4
  go_region
  go_wp2
  go_region
  go_wp2_with fail
  have TH := hid (take_heap (pl := pl) (HH.out.below HB4.out) HE.out HL.out)
  have TP := hid (take_perm hm HL.out)
  have hdn : Hid (DownInv (((ps.set 0 pl).set m Pc.zero).take m) 0) := by
    obtain ⟨mid, e1, e2⟩ := TP.out.2
    rw [← HPL.out] at e1
    rw [e1]
    have h2 := ho_take HHO.out m
    have e3 : ps.take m = ps.getD 0 Pc.zero :: mid := by
      have hml : mid.length + 1 = m := by
        have := congrArg List.length e2
        simp [HL.out] at this
        omega
      rw [e2, ← hml]
      simp
    rw [e3] at h2
    exact down_start h2
  have hlq : (((ps.set 0 pl).set m Pc.zero).take m).length ≤ 1000000 := by simp; omega
  refine (sink_any TH.out.1 hlq hdn.out).mono ?_
  rintro e w2 ⟨rfl, ps', h2, hp2, ho2, on2, hsk⟩
  have HSK := hid hsk
  clear hsk
  have HO2 : Hid (Only hb iv W w2) := TH.out.2.trans (only_own on2 (by rw [HE.out]; exact own_cut _ _ _ _ _))
  have HR := hid (show _ ∧ _ ∧ _ from ⟨h2, hp2, ho2⟩)
  have hob : iv.ownBlock = some g := by rw [HE.out]; rfl
  have q0 : iv.ownBlock ≠ some w.heap.size := by rw [hob]; simp; omega
  have q2 : iv.ownBlock ≠ some (w.heap.size + 1 + 1) := by rw [hob]; simp; omega
  have hzW : w.heap.size < W.heap.size := World.block_lt_of_cell? W _ r0
  have y0 := only_cell HO2.out (by omega) q0 r0
  have y1 := only_cell HO2.out (by omega) q0 r1
  have y2 := only_free HO2.out (by omega) q0 hzW s0
  have y3 := only_free HO2.out (by omega) q0 hzW s1
  have y4 := only_cell HO2.out (by omega) q2 x0
  have y5 := only_cell HO2.out (by omega) q2 x1
  have Hq0 := hid q0
  have Hob := hid hob
  clear h2 hp2 ho2 on2 k0 k1 k2 k3 k4 k5 k6 k7 k8 k9 r0 r1 s0 s1 n0 n1 x0 x1 q0 q2 hob
  go_wp2
  refine bodyPost_ret (v := .tuple #[.agg #[.int .i64 p0.wt, .slice p0.ao p0.sy.length p0.c], .bool true]) (by simp [results, Try.results43, go_sem, y0, y1]) rfl ⟨rfl, _, ps', HR.out.1.kept ?_ ?_, ?_, HR.out.2.2, ?_, ?_, ?_⟩
  · rw [Below.heap_setCell _ _ _ _ (by simp; omega), Below.heap_setCell _ _ _ _ (by simp; omega)]
  · intro k hk
    have hkg : k = g := by simp [Value.ownBlock] at hk; exact hk.symm
    rw [Below.heap_setCell _ _ _ _ (by simp; omega), Below.heap_setCell _ _ _ _ (by simp; omega)]
  · have := TP.out.1
    rw [← HP0.out, ← HPL.out] at this
    exact (List.Perm.cons _ HR.out.2.1).trans this
  · have b4 := HB4.out
    have o2 := HO2.out
    have z4 := b4.size
    refine ⟨o2.os.trans b4.os, o2.tape.trans b4.tape, o2.output.trans b4.output, by have := o2.size; simp [World.setCell]; omega, fun k h1 h2 h3 => ?_⟩
    rw [Below.heap_setCell _ _ _ _ (by simp; omega), Below.heap_setCell _ _ _ _ (by simp; omega), o2.block k (by omega) h2 h3, b4.block k h1]
  · rw [HE.out]; exact own_cut _ _ _ _ _
  · refine .inr ⟨by have := HL.out; omega, ?_⟩
    have e : ps.length - 1 = m := by have := HL.out; omega
    rw [e, ← HPL.out]
    exact HSK.out
theorem take_heap1 {W : World} {hb g cap : Nat} {iv : Value} {ps : List Pc} {p0 : Pc} (h : Heap W hb iv ps) (e : iv = .slice (some ⟨g, 0, none⟩) ps.length cap) (hl : ps.length = 1) :
    Heap (((((W.setCell ⟨g, 0, none⟩ (.int .i64 p0.wt)).setCell ⟨g, 1, none⟩ (.slice p0.ao p0.sy.length p0.c)).setCell ⟨g, 0, none⟩ (.int .i64 0)).setCell ⟨g, 1, none⟩ (.slice none 0 0)).setCell ⟨hb, 0, none⟩ (.slice (some ⟨g, 0, none⟩) 0 cap)).drew.drew hb (.slice (some ⟨g, 0, none⟩) 0 cap) (((ps.set 0 p0).set 0 Pc.zero).take 0) ∧
    Only hb iv W (((((W.setCell ⟨g, 0, none⟩ (.int .i64 p0.wt)).setCell ⟨g, 1, none⟩ (.slice p0.ao p0.sy.length p0.c)).setCell ⟨g, 0, none⟩ (.int .i64 0)).setCell ⟨g, 1, none⟩ (.slice none 0 0)).setCell ⟨hb, 0, none⟩ (.slice (some ⟨g, 0, none⟩) 0 cap)).drew.drew := by
  have hob : iv.ownBlock = some g := by rw [e]; rfl
  have h1 := h.put e 0 p0
  have h2 := h1.put (g := g) (cap := cap) (by rw [e]; simp) 0 Pc.zero
  have h3 : Heap ((((W.setCell ⟨g, 0, none⟩ (.int .i64 p0.wt)).setCell ⟨g, 1, none⟩ (.slice p0.ao p0.sy.length p0.c)).setCell ⟨g, 0, none⟩ (.int .i64 0)).setCell ⟨g, 1, none⟩ (.slice none 0 0)) hb (.slice (some ⟨g, 0, none⟩) 1 cap) ((ps.set 0 p0).set 0 Pc.zero) := by
    rw [e, hl] at h2
    exact h2
  refine ⟨((Heap.cut (m := 0) h3 (by simp [hl])).below (Below.refl _ _).drew).below (Below.refl _ _).drew, ?_⟩
  have o1 := ((((Only.refl hb iv W).set hob 0 (.int .i64 p0.wt)).set hob 1 (.slice p0.ao p0.sy.length p0.c)).set hob 0 (.int .i64 0)).set hob 1 (.slice none 0 0)
  have o2 : Only hb iv W (((((W.setCell ⟨g, 0, none⟩ (.int .i64 p0.wt)).setCell ⟨g, 1, none⟩ (.slice p0.ao p0.sy.length p0.c)).setCell ⟨g, 0, none⟩ (.int .i64 0)).setCell ⟨g, 1, none⟩ (.slice none 0 0)).setCell ⟨hb, 0, none⟩ (.slice (some ⟨g, 0, none⟩) 0 cap)) :=
    o1.trans ⟨rfl, rfl, rfl, by simp [World.setCell], fun k _ h2 _ => Below.heap_setCell _ _ _ _ h2⟩
  exact (o2.below (Below.refl _ _).drew).below (Below.refl _ _).drew

set_option maxRecDepth 20000 in
set_option maxHeartbeats 4000000 in
theorem take_one {w : World} {hb : Nat} {iv : Value} {ps : List Pc} (h : Heap w hb iv ps) (hl : ps.length = 1) :
    Calls Try.prog 43 #[.pointer (some ⟨hb, 0, none⟩)] w fun e w' => e = .returned (.tuple #[pagg (ps.getD 0 Pc.zero), .bool true]) ∧ ∃ iv' ps', Heap w' hb iv' ps' ∧ (ps.getD 0 Pc.zero :: ps').Perm ps ∧ HO ps' ∧ Only hb iv w w' ∧ iv'.ownBlock = iv.ownBlock ∧ TakP ps ps' := by
  have HH := hid h
  obtain ⟨g, cap, cur, e, hbg, hg, hnc, hcm, hcs, ht⟩ := h.at (by omega)
  have c0 := h.cell0
  rw [e, hl] at c0
  have f0 := h.free 0
  obtain ⟨a1, a2, a3, a4⟩ := row_get hg ht (show 0 < ps.length by omega)
  obtain ⟨p0, hp0⟩ : ∃ q, q = ps.getD 0 Pc.zero := ⟨_, rfl⟩
  rw [← hp0] at a1 a2 ⊢
  rw [Nat.zero_mul] at a1 a2 a3 a4
  rw [Nat.zero_add] at a2 a4
  have HP0 := hid hp0
  have HE := hid e
  have HL := hid hl
  have zb := h.lt
  have zg : g < w.heap.size := (Array.getElem?_eq_some_iff.1 hg).1
  clear h hp0 e hg hnc hcm hcs ht hl
  have c0' := old3 c0
  have f0' := old3f zb f0
  have a1' := old3 a1
  have a2' := old3 a2
  have a3' := old3f zg a3
  have a4' := old3f zg a4
  have hbg' : hb ≠ g := by omega
  go_enter Try.func43, Try.ntmps43
  go_wp2
  have BX := boxes w #[.int .i64 0, .slice none 0 0] #[.int .i64 0, .slice none 0 0] #[.int .i64 p0.wt, .slice p0.ao p0.sy.length p0.c]
  have k0 := c0' (.cells #[.int .i64 0, .slice none 0 0] 58) (.cells #[.int .i64 0, .slice none 0 0] 58) (.cells #[.int .i64 p0.wt, .slice p0.ao p0.sy.length p0.c] 58)
  have k1 := f0' (.cells #[.int .i64 0, .slice none 0 0] 58) (.cells #[.int .i64 0, .slice none 0 0] 58) (.cells #[.int .i64 p0.wt, .slice p0.ao p0.sy.length p0.c] 58)
  have k2 := a1' (.cells #[.int .i64 0, .slice none 0 0] 58) (.cells #[.int .i64 0, .slice none 0 0] 58) (.cells #[.int .i64 p0.wt, .slice p0.ao p0.sy.length p0.c] 58)
  have k3 := a2' (.cells #[.int .i64 0, .slice none 0 0] 58) (.cells #[.int .i64 0, .slice none 0 0] 58) (.cells #[.int .i64 p0.wt, .slice p0.ao p0.sy.length p0.c] 58)
  have k4 := a3' (.cells #[.int .i64 0, .slice none 0 0] 58) (.cells #[.int .i64 0, .slice none 0 0] 58) (.cells #[.int .i64 p0.wt, .slice p0.ao p0.sy.length p0.c] 58)
  have k5 := a4' (.cells #[.int .i64 0, .slice none 0 0] 58) (.cells #[.int .i64 0, .slice none 0 0] 58) (.cells #[.int .i64 p0.wt, .slice p0.ao p0.sy.length p0.c] 58)
  obtain ⟨W, hW⟩ : ∃ W, W = ((w.alloc (.cells #[.int .i64 0, .slice none 0 0] 58)).alloc (.cells #[.int .i64 0, .slice none 0 0] 58)).alloc (.cells #[.int .i64 p0.wt, .slice p0.ao p0.sy.length p0.c] 58) := ⟨_, rfl⟩
  rw [← hW] at BX k0 k1 k2 k3 k4 k5 ⊢
  clear hW c0' f0' a1' a2' a3' a4' c0 f0 a1 a2 a3 a4
  obtain ⟨B1, B2, B3, B4⟩ := BX
  have r0 : W.cell? ⟨w.heap.size, 0, none⟩ = some (.int .i64 0) := (B1 0 _ rfl).1
  have r1 : W.cell? ⟨w.heap.size, 1, none⟩ = some (.slice none 0 0) := (B1 1 _ rfl).1
  have s0 := (B1 0 _ rfl).2
  have s1 := (B1 1 _ rfl).2
  have n0 : W.cell? ⟨w.heap.size + 1, 0, none⟩ = some (.int .i64 0) := B2 0 _ rfl
  have n1 : W.cell? ⟨w.heap.size + 1, 1, none⟩ = some (.slice none 0 0) := B2 1 _ rfl
  have x0 : W.cell? ⟨w.heap.size + 1 + 1, 0, none⟩ = some (.int .i64 p0.wt) := B3 0 _ rfl
  have x1 : W.cell? ⟨w.heap.size + 1 + 1, 1, none⟩ = some (.slice p0.ao p0.sy.length p0.c) := B3 1 _ rfl
  have HB4 := hid B4
  clear B1 B2 B3 B4
  go_region
  go_wp2
  go_region
  go_wp2_with fail
  have TH := hid (take_heap1 (p0 := p0) (HH.out.below HB4.out) HE.out HL.out)
  have hdn : Hid (DownInv (((ps.set 0 p0).set 0 Pc.zero).take 0) 0) := by rw [List.take_zero]; exact ⟨fun k _ kl => by simp at kl, fun k _ kl => by simp at kl⟩
  have hlq : (((ps.set 0 p0).set 0 Pc.zero).take 0).length ≤ 1000000 := by simp
  refine (sink_any TH.out.1 hlq hdn.out).mono ?_
  rintro e w2 ⟨rfl, ps', h2, hp2, ho2, on2, _⟩
  have HO2 : Hid (Only hb iv W w2) := TH.out.2.trans (only_own on2 (by rw [HE.out]; exact own_cut _ _ _ _ _))
  have HR := hid (show _ ∧ _ ∧ _ from ⟨h2, hp2, ho2⟩)
  have hob : iv.ownBlock = some g := by rw [HE.out]; rfl
  have q0 : iv.ownBlock ≠ some w.heap.size := by rw [hob]; simp; omega
  have q2 : iv.ownBlock ≠ some (w.heap.size + 1 + 1) := by rw [hob]; simp; omega
  have hzW : w.heap.size < W.heap.size := World.block_lt_of_cell? W _ r0
  have y0 := only_cell HO2.out (by omega) q0 r0
  have y1 := only_cell HO2.out (by omega) q0 r1
  have y2 := only_free HO2.out (by omega) q0 hzW s0
  have y3 := only_free HO2.out (by omega) q0 hzW s1
  have y4 := only_cell HO2.out (by omega) q2 x0
  have y5 := only_cell HO2.out (by omega) q2 x1
  have Hq0 := hid q0
  have Hob := hid hob
  clear h2 hp2 ho2 on2 k0 k1 k2 k3 k4 k5 r0 r1 s0 s1 n0 n1 x0 x1 q0 q2 hob
  go_wp2
  refine bodyPost_ret (v := .tuple #[.agg #[.int .i64 p0.wt, .slice p0.ao p0.sy.length p0.c], .bool true]) (by simp [results, Try.results43, go_sem, y0, y1]) rfl ⟨rfl, _, ps', HR.out.1.kept ?_ ?_, ?_, HR.out.2.2, ?_, ?_, ?_⟩
  · rw [Below.heap_setCell _ _ _ _ (by simp; omega), Below.heap_setCell _ _ _ _ (by simp; omega)]
  · intro k hk
    have hkg : k = g := by simp [Value.ownBlock] at hk; exact hk.symm
    rw [Below.heap_setCell _ _ _ _ (by simp; omega), Below.heap_setCell _ _ _ _ (by simp; omega)]
  · have e1 : ps' = [] := by have := HR.out.2.1.length_eq; simpa using this
    have e2 : ps = [p0] := by
      have h1 := HL.out
      have h2 := HP0.out
      match ps, h1 with
      | [q], _ => rw [h2]; rfl
    rw [e1, e2]
  · have b4 := HB4.out
    have o2 := HO2.out
    have z4 := b4.size
    refine ⟨o2.os.trans b4.os, o2.tape.trans b4.tape, o2.output.trans b4.output, by have := o2.size; simp [World.setCell]; omega, fun k h1 h2 h3 => ?_⟩
    rw [Below.heap_setCell _ _ _ _ (by simp; omega), Below.heap_setCell _ _ _ _ (by simp; omega), o2.block k (by omega) h2 h3, b4.block k h1]
  · rw [HE.out]; exact own_cut _ _ _ _ _
  · exact .inl ⟨HL.out, by have := HR.out.2.1.length_eq; simpa using this⟩
end Go.Proofs.Ythdmjmnkhlpnnaa
