/-
  What New and Put do.
-/
import Derived.Test.YthdmjmnkhlpnnaaHeapf
import Derived.Deep.AppendLies
import Derived.Deep.RegionLaw
namespace Go.Proofs.Ythdmjmnkhlpnnaa
open Go.RowKit
attribute [local go_sem ↓] Go.wp_at_zero Go.wp_at_succ

theorem info58 : (Try.prog.info? 58).map (fun i => (i.zero, i.size, i.bytes)) = some (some (.agg #[.int .i64 0, .slice none 0 0]), 2, 32) := by kernel_rfl

set_option maxHeartbeats 400000 in
theorem new_any (w : World) : Calls Try.prog 45 #[.func (.func 46) #[] #[]] w fun e w' => e = .returned (.pointer (some ⟨w.heap.size, 0, none⟩)) ∧ Heap w' w.heap.size (.slice none 0 0) [] ∧ Below w.heap.size w w' := by
  go_enter Try.func45, Try.ntmps45
  go_wp2
  go_ret
  exact ⟨rfl, ⟨heap_alloc_new w _, World.ownsRow_nil _ _ _ _⟩, (Below.refl _ _).alloc (Nat.le_refl _) _⟩

theorem Heap.push {w w1 : World} {hb : Nat} {iv : Value} {ps : List Pc} {A B : Obj} {p : Pc} {g cap : Nat} (h : Heap w hb iv ps) (hg : ((w.alloc A).alloc B).grownBy w1 iv.ownBlock)
    (hown : w1.ownsRow (hb + 1) 58 2 (.slice (some ⟨g, 0, none⟩) (ps.length + 1) cap) (ps.length + 1) (flat ps ++ [.int .i64 p.wt, .slice p.ao p.sy.length p.c])) :
    Heap (w1.setCell ⟨hb, 0, none⟩ (.slice (some ⟨g, 0, none⟩) (ps.length + 1) cap)) hb (.slice (some ⟨g, 0, none⟩) (ps.length + 1) cap) (ps ++ [p]) ∧ Below hb w (w1.setCell ⟨hb, 0, none⟩ (.slice (some ⟨g, 0, none⟩) (ps.length + 1) cap)) := by
  have hlt := h.lt
  have hne : iv.ownBlock ≠ some hb := owns_type h.own h.blk (by decide)
  have e1 : w1.heap[hb]? = w.heap[hb]? := by
    rw [hg.block hb (by simp; omega) (fun e => hne e.symm), Below.heap_alloc _ _ _ (by simp; omega), Below.heap_alloc _ _ _ hlt]
  refine ⟨⟨?_, ?_⟩, ?_⟩
  · rw [setCell_eq_setRow w1 hb 0 #[iv, .func (.func 46) #[] #[]] 73 (0, 0) _ (e1.trans h.blk)]
    exact setRow_heap w1 hb #[iv, .func (.func 46) #[] #[]] _ 73 _ (e1.trans h.blk)
  · rw [flat_append, List.length_append]
    refine owns_kept hown fun k hk => Below.heap_setCell _ _ _ _ ?_
    intro e
    have := (hown.lt k hk).1
    simp at e
    omega
  · exact (((((Below.refl hb w).alloc (by omega) A).alloc (by simp; omega) B).grown hg (by simp; omega) (fun k hk => by have := (h.own.lt k hk).1; omega))).setCell (Nat.le_refl _) _

theorem Heap.push_blk {w w1 : World} {hb : Nat} {iv v : Value} {ps : List Pc} {A B : Obj} (h : Heap w hb iv ps) (hv : iv = v) (hg : ((w.alloc A).alloc B).drew.grownBy w1 v.ownBlock) : w1.heap[hb]? = w.heap[hb]? := by
  subst hv
  have hlt := h.lt
  have hne : iv.ownBlock ≠ some hb := owns_type h.own h.blk (by decide)
  have h1 := hg.block hb (by simp; omega) (fun e => hne e.symm)
  refine h1.trans ?_
  show ((w.alloc A).alloc B).heap[hb]? = _
  rw [Below.heap_alloc _ _ _ (by simp; omega), Below.heap_alloc _ _ _ hlt]

set_option maxRecDepth 20000 in
set_option maxHeartbeats 2000000 in
theorem put_any {w : World} {hb : Nat} {iv : Value} {ps : List Pc} (h : Heap w hb iv ps) (ho : HO ps) (hn : ps.length ≤ 100000) (p : Pc) :
    Calls Try.prog 47 #[.pointer (some ⟨hb, 0, none⟩), pagg p] w fun e w' => e = .returned (.tuple #[]) ∧ ∃ iv' ps', Heap w' hb iv' ps' ∧ ps'.Perm (p :: ps) ∧ HO ps' ∧ Below hb w w' ∧ RiseP (ps ++ [p]) ps.length ps' := by
  obtain ⟨i0, hi0, hz0, hz1, hz2⟩ := info_parts info58
  have HH := hid h
  have HHO := hid ho
  obtain ⟨ia, ic, hiv, _⟩ := owns_shape h.own
  have c0 := h.cell0
  rw [hiv] at c0
  have f0 := h.free 0
  have hown := h.own
  have hne : iv.ownBlock ≠ some hb := owns_type h.own h.blk (by decide)
  have hnw : iv.ownBlock ≠ some w.heap.size := fun e => by have := (h.own.lt _ e).2; omega
  rw [hiv] at hown hne hnw
  have hlt := h.lt
  have HIV := hid hiv
  have hb1 : (hb : Nat) ≠ w.heap.size := by omega
  have f0a : ∀ o : Obj, (w.alloc o).frozen? ⟨hb, 0, none⟩ = false := fun o => (World.frozen?_of_block (w := w) (Below.heap_alloc w o hb hlt)).trans f0
  have f0b : ∀ o o' : Obj, ((w.alloc o).alloc o').frozen? ⟨hb, 0, none⟩ = false := fun o o' => (World.frozen?_of_block (w := w.alloc o) (Below.heap_alloc (w.alloc o) o' hb (by simp; omega))).trans (f0a o)
  clear h ho hiv
  unfold pagg
  go_enter Try.func47, Try.ntmps47
  go_wp2
  go_region_law
    ((refine step_append_lies _ (by rfl) _ _ _ (by rfl) (hb + 1) 58 i0 _ 2 32 Try.underlying54 hi0 hz0 hz1 hz2 rfl (by omega) (.slice ia ps.length ic) ps.length (flat ps) (by rfl) (((hown.alloc _).alloc _).drew)
        ⟨w.heap.size + 1, 0, none⟩ 1 1 [.int .i64 p.wt, .slice p.ao p.sy.length p.c] (by rfl) (by rfl) (by simpa using cells_new (w.alloc (.cells #[.int .i64 p.wt, .slice p.ao p.sy.length p.c] 58)) #[.int .i64 p.wt, .slice p.ao p.sy.length p.c] 58) (by simp [Value.oneCell'])
        (by omega) (by unfold maxLen; omega) (by omega) (by simp; omega) (w.heap.size + 1 + 1) (by simp) ?_; intro gg cap w1 hown1 hgrow hat hlt1; have c0' := (World.cell?_of_block (w := w) (a := ⟨hb, 0, none⟩) (HH.out.push_blk HIV.out hgrow)).trans c0; have f0' := (World.frozen?_of_block (w := w) (a := ⟨hb, 0, none⟩) (HH.out.push_blk HIV.out hgrow)).trans f0))
  all_goals
    obtain ⟨P1, P2⟩ := HH.out.push (p := p) (by rw [HIV.out]; exact ⟨hgrow.os, hgrow.tape, hgrow.output, hgrow.size, hgrow.block⟩) hown1
    have HP1 := hid P1
    have HP2 := hid P2
    clear P1 P2 hown1 hgrow hat hlt1 hown c0 f0 f0a f0b
    go_wp2_with fail
    refine (rise_any HP1.out ps.length (by simp) (by simp; omega) (up_start HHO.out)).mono ?_
    rintro e w2 ⟨rfl, ps', h2, hp, ho', only, hri⟩
    have HR := hid (show _ ∧ _ ∧ _ ∧ _ ∧ _ from ⟨h2, hp, ho', only, hri⟩)
    clear h2 hp ho' only hri
    go_wp2
    go_end0
    exact ⟨rfl, _, ps', HR.out.1, HR.out.2.1.trans List.perm_append_comm, HR.out.2.2.1, HP2.out.trans (HR.out.2.2.2.1.to HP1.out), HR.out.2.2.2.2⟩
end Go.Proofs.Ythdmjmnkhlpnnaa
