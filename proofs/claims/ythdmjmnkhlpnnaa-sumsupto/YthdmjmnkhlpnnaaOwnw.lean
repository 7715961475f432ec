/-
  The walk of Book.owns.
-/
import Derived.Test.YthdmjmnkhlpnnaaOwns
namespace Go.Proofs.Ythdmjmnkhlpnnaa
open Go.RowKit

section
variable {w w' : World} {bk : Nat} {L : List (Value × Int)} {nx : Int} {lv mv gv : Value} {gs : List Int}
theorem Book.next (h : Book w bk L nx lv mv gv gs) (v : Int) : Book (w.setCell ⟨bk, 2, none⟩ (.int .i64 v)) bk L v lv mv gv gs := by
  have same : ∀ k, k ≠ bk → (w.setCell ⟨bk, 2, none⟩ (.int .i64 v)).heap[k]? = w.heap[k]? := fun k h2 => Below.heap_setCell _ _ _ _ h2
  refine ⟨?_, ?_, ?_, ?_, h.dist, ?_⟩
  · rw [setCell_eq_setRow w bk 2 #[lv, mv, .int .i64 nx, gv] 29 (0, 0) _ h.blk]
    exact setRow_heap w bk #[lv, mv, .int .i64 nx, gv] _ 29 _ h.blk
  · exact owns_kept h.hl fun k hk => same k fun e => owns_type h.hl h.blk (by decide) (e ▸ hk)
  · exact owns_kept h.hm fun k hk => same k fun e => owns_type h.hm h.blk (by decide) (e ▸ hk)
  · exact owns_kept h.hg fun k hk => same k fun e => owns_type h.hg h.blk (by decide) (e ▸ hk)
  · intro p hp
    have hm := h.marks p hp
    exact hm.kept fun k hk => same k fun e => hm.type h.blk (by decide) (e ▸ hk)
theorem Book.mine (h : Book w bk L nx lv mv gv gs) {g : Nat} {l : List Int} (hr : Row w g l) (h1 : bk < g) (h2 : mv.ownBlock ≠ some g) (h3 : gv.ownBlock ≠ some g) (h4 : ∀ p ∈ L, p.1.ownBlock ≠ some g) (j : Nat) (x : Value) :
    Book (w.setCell ⟨g, j, none⟩ x) bk L nx lv mv gv gs := by
  have same : ∀ k, k ≠ g → (w.setCell ⟨g, j, none⟩ x).heap[k]? = w.heap[k]? := fun k h2 => Below.heap_setCell _ _ _ _ h2
  refine ⟨?_, ?_, ?_, ?_, h.dist, ?_⟩
  · rw [same bk (by omega)]; exact h.blk
  · exact owns_kept h.hl fun k hk => same k fun e => owns_type h.hl hr (by decide) (e ▸ hk)
  · exact owns_kept h.hm fun k hk => same k fun e => h2 (e ▸ hk)
  · exact owns_kept h.hg fun k hk => same k fun e => h3 (e ▸ hk)
  · intro p hp
    exact (h.marks p hp).kept fun k hk => same k fun e => h4 p hp (e ▸ hk)
end

/-- what holds while a list is written full -/
structure Fill (w wr : World) (bk : Nat) (L : List (Value × Int)) (m : Int) (lv mv gv : Value) (gs : List Int) (va : Option Addr) (n k : Nat) : Prop where
  book : Book wr bk L m lv mv gv gs
  row : ∀ b, va = some b → ∃ g l, b = ⟨g, 0, none⟩ ∧ l.length = n ∧ Row wr g l ∧ ∀ j, j < k → l.getD j 0 = m
  kept : ∀ k', k' < w.heap.size → k' ≠ bk → (Value.slice va n n).ownBlock ≠ some k' → wr.heap[k']? = w.heap[k']?
  below : Below bk w wr
theorem Fill.full {w wr : World} {bk : Nat} {L : List (Value × Int)} {m : Int} {lv mv gv : Value} {gs : List Int} {va : Option Addr} {n k : Nat} (h : Fill w wr bk L m lv mv gv gs va n k) (hk : n ≤ k) : RowOf wr va n m := by
  intro b hv
  obtain ⟨g, l, e, hl, hr, hc⟩ := h.row b hv
  refine ⟨g, e, ?_⟩
  have : l = List.replicate n m := by
    apply List.ext_getElem?
    intro i
    by_cases hi : i < n
    · have := hc i (by omega)
      simp [hi, hl] at this ⊢
      exact this
    · rw [List.getElem?_eq_none (by omega), List.getElem?_eq_none (by simp; omega)]
  rw [← this]
  exact hr

theorem owns_step {wr w1 : World} {bk : Nat} {L : List (Value × Int)} {m : Int} {lv mv gv o1 : Value} {gs : List Int} {va : Option Addr} {n j B : Nat} {o : Obj} (hS : Book wr bk L m lv mv gv gs) (hR : RowOf wr va n m) (hgrow : (wr.alloc o).grownBy w1 none)
    (hown : w1.ownsRow B 3 1 o1 (n + j) (List.replicate n (Value.int .i64 m) ++ List.replicate j (Value.int .i64 m))) (hB : wr.heap.size ≤ B) (hn : n + j ≤ 400) :
    Book w1 bk L m lv mv gv gs ∧ RowOf w1 va n m ∧ Below wr.heap.size wr w1 ∧ Mark w1 bk mv gv o1 m ∧ ∀ k, o1.ownBlock = some k → wr.heap.size ≤ k := by
  have hb := grown_below hgrow
  rw [List.replicate_append_replicate] at hown
  have hM := mark_new hS hB hn hown
  exact ⟨hS.below hb, hR.below hb, hb, hM.1, hM.2⟩
theorem info27 : (Try.prog.info? 27).map (fun i => (i.zero, i.size, i.bytes)) = some (some (.slice none 0 0), 1, 24) := by kernel_rfl
theorem Book.mid2 {w3 w4 w6 : World} {bk : Nat} {L : List (Value × Int)} {m : Int} {lv mv gv lv' : Value} {gs : List Int} {A1 A2 : Obj} (h : Book w3 bk L m lv mv gv gs) (hg1 : (w3.alloc A1).grownBy w4 lv.ownBlock) (hg2 : ((w4.setCell ⟨bk, 0, none⟩ lv').alloc A2).grownBy w6 mv.ownBlock) :
    w6.heap[bk]? = some (.cells #[lv', mv, .int .i64 m, gv] 29 (0, 0)) := by
  obtain ⟨_, e2, _⟩ := h.mid hg1 lv'
  have hbm : mv.ownBlock ≠ some bk := owns_type h.hm h.blk (by decide)
  have s4 : w3.heap.size < w4.heap.size := by have := hg1.size; simp at this; omega
  have s5 : (w4.setCell ⟨bk, 0, none⟩ lv').heap.size = w4.heap.size := by simp [World.setCell]
  rw [hg2.block bk (by have := h.lt; rw [World.size_alloc, s5]; omega) (fun e => hbm e.symm), Below.heap_alloc _ _ _ (by rw [s5]; have := h.lt; omega)]
  exact e2
theorem cell_in {w : World} {b j : Nat} {cs : Array Value} {t : TypeId} {v : Value} (h : w.heap[b]? = some (.cells cs t (0, 0))) (hv : cs[j]? = some v) : w.cell? ⟨b, j, none⟩ = some v ∧ w.frozen? ⟨b, j, none⟩ = false :=
  ⟨by rw [cell_of_row w b j cs t (0, 0) h, hv], by simp [World.frozen?, h]⟩

theorem owns_end {w wr w1 w2 w3 w4 w6 : World} {bk n k : Nat} {L : List (Value × Int)} {m : Int} {lv mv gv o1 o2 o3 lv' mv' : Value} {gs : List Int} {va : Option Addr} {A1 A2 : Obj}
    (HS : Fill w wr bk L m lv mv gv gs va n k) (hn : n ≤ 320) (hnone : va = none → n = 0 ∧ n = 0)
    (hf : ∀ g, va = some ⟨g, 0, none⟩ → bk < g ∧ mv.ownBlock ≠ some g ∧ gv.ownBlock ≠ some g ∧ ∀ p ∈ L, p.1.ownBlock ≠ some g)
    (S1 : Book w1 bk L m lv mv gv gs ∧ RowOf w1 va n m ∧ Below wr.heap.size wr w1 ∧ Mark w1 bk mv gv o1 m ∧ ∀ k, o1.ownBlock = some k → wr.heap.size ≤ k)
    (S2 : Book w2 bk L m lv mv gv gs ∧ RowOf w2 va n m ∧ Below w1.heap.size w1 w2 ∧ Mark w2 bk mv gv o2 m ∧ ∀ k, o2.ownBlock = some k → w1.heap.size ≤ k)
    (S3 : Book w3 bk L m lv mv gv gs ∧ RowOf w3 va n m ∧ Below w2.heap.size w2 w3 ∧ Mark w3 bk mv gv o3 m ∧ ∀ k, o3.ownBlock = some k → w2.heap.size ≤ k)
    (hg1 : (w3.alloc A1).grownBy w4 lv.ownBlock)
    (hl' : w4.ownsRow (bk + 1) 27 1 lv' (L.length + 4) (L.map Prod.fst ++ [.slice va n n, o1, o2, o3])) (t1 : lv'.ownBlock = lv.ownBlock ∨ ∀ k, lv'.ownBlock = some k → w3.heap.size + 1 ≤ k)
    (hg2 : ((w4.setCell ⟨bk, 0, none⟩ lv').alloc A2).grownBy w6 mv.ownBlock)
    (hm' : w6.ownsRow (bk + 1) 3 1 mv' (L.length + 4) ((L.map fun p => Value.int .i64 p.2) ++ [.int .i64 m, .int .i64 m, .int .i64 m, .int .i64 m])) (t2 : mv'.ownBlock = mv.ownBlock ∨ ∀ k, mv'.ownBlock = some k → w4.heap.size + 1 ≤ k) :
    ∃ N lv'' mv'', N.length = 4 ∧ Book (w6.setCell ⟨bk, 1, none⟩ mv') bk (L ++ N) m lv'' mv'' gv gs ∧
      (∀ k, k < w.heap.size → k ≠ bk → (Value.slice va n n).ownBlock ≠ some k → lv.ownBlock ≠ some k → mv.ownBlock ≠ some k → (w6.setCell ⟨bk, 1, none⟩ mv').heap[k]? = w.heap[k]?) ∧ Below bk w (w6.setCell ⟨bk, 1, none⟩ mv') ∧
      (mv''.ownBlock = mv.ownBlock ∨ ∀ k, mv''.ownBlock = some k → w.heap.size ≤ k) ∧ (∀ p ∈ N, p.1 = .slice va n n ∨ ∀ k, p.1.ownBlock = some k → w.heap.size ≤ k) := by
  obtain ⟨B1, R1, b1, M1, g1⟩ := S1
  obtain ⟨B2, R2, b2, M2, g2⟩ := S2
  obtain ⟨B3, R3, b3, M3, g3⟩ := S3
  have z0 := HS.below.size
  have z1 := b1.size
  have z2 := b2.size
  have z3 := b3.size
  have hN : ∀ p ∈ [((.slice va n n : Value), m), (o1, m), (o2, m), (o3, m)], Mark w3 bk mv gv p.1 p.2 := by
    intro p hp
    simp at hp
    rcases hp with rfl | rfl | rfl | rfl
    · exact mark_row (by omega) hnone R3 fun g hg => ⟨(hf g hg).1, (hf g hg).2.1, (hf g hg).2.2.1⟩
    · exact M1.kept fun k hk => (b3.block k (by have := M1.lt hk; omega)).trans (b2.block k (M1.lt hk))
    · exact M2.kept fun k hk => b3.block k (M2.lt hk)
    · exact M3
  obtain ⟨F1, F2, F3, F4⟩ := B3.final (N := [((.slice va n n : Value), m), (o1, m), (o2, m), (o3, m)]) hg1 hl' (by rw [World.size_alloc]; exact t1) hg2 hm' (by rw [World.size_alloc, show (w4.setCell ⟨bk, 0, none⟩ lv').heap.size = w4.heap.size by simp [World.setCell]]; exact t2) hN
  refine ⟨_, lv', mv', rfl, F1, fun k h1 h2 h3 h4 h5 => ?_, ?_, ?_, ?_⟩
  · rw [F2 k (by omega) h2 h4 h5, b3.block k (by omega), b2.block k (by omega), b1.block k (by omega)]
    exact HS.kept k h1 h2 h3
  · have hlt := HS.book.lt
    exact HS.below.trans ((b1.mono (by omega)).trans ((b2.mono (by omega)).trans ((b3.mono (by omega)).trans F4)))
  · rcases F3 with h | h
    · exact .inl h
    · exact .inr fun k hk => by have := h k hk; omega
  · intro p hp
    simp at hp
    rcases hp with rfl | rfl | rfl | rfl
    · exact .inl rfl
    · exact .inr fun k hk => by have := g1 k hk; omega
    · exact .inr fun k hk => by have := g2 k hk; omega
    · exact .inr fun k hk => by have := g3 k hk; omega

set_option maxRecDepth 20000 in
set_option maxHeartbeats 2000000 in
theorem owns_any {w : World} {bk : Nat} {L : List (Value × Int)} {nx : Int} {lv mv gv : Value} {gs : List Int} (hB : Book w bk L nx lv mv gv gs) (va : Option Addr) (n : Nat) (hn : n ≤ 320) (hL : L.length ≤ 100000000) (hx1 : -1000000000 ≤ nx) (hx2 : nx ≤ 0)
    (hnone : va = none → n = 0 ∧ n = 0) (hrow : ∀ b, va = some b → ∃ g l, b = ⟨g, 0, none⟩ ∧ l.length = n ∧ Row w g l)
    (hf : ∀ g, va = some ⟨g, 0, none⟩ → bk < g ∧ mv.ownBlock ≠ some g ∧ gv.ownBlock ≠ some g ∧ ∀ p ∈ L, p.1.ownBlock ≠ some g) :
    Calls Try.prog 20 #[.pointer (some ⟨bk, 0, none⟩), .slice va n n] w fun e w' => e = .returned (.tuple #[]) ∧ ∃ N lv' mv', N.length = 4 ∧ Book w' bk (L ++ N) (nx - 1) lv' mv' gv gs ∧
      (∀ k, k < w.heap.size → k ≠ bk → (Value.slice va n n).ownBlock ≠ some k → lv.ownBlock ≠ some k → mv.ownBlock ≠ some k → w'.heap[k]? = w.heap[k]?) ∧ Below bk w w' ∧
      (mv'.ownBlock = mv.ownBlock ∨ ∀ k, mv'.ownBlock = some k → w.heap.size ≤ k) ∧ (∀ p ∈ N, p.1 = .slice va n n ∨ ∀ k, p.1.ownBlock = some k → w.heap.size ≤ k) := by
  obtain ⟨i0, hi, hz0, hz1, hz2⟩ := info_parts info3
  have c2 := hB.cell2
  have f2 := hB.free 2
  have HF := hid hf
  have HN := hid hnone
  have H0 : Hid (Fill w (w.setCell ⟨bk, 2, none⟩ (.int .i64 (nx - 1))) bk L (nx - 1) lv mv gv gs va n 0) := by
    refine ⟨hB.next _, fun b hv => ?_, fun k' _ h2 _ => Below.heap_setCell _ _ _ _ h2, (Below.refl bk w).setCell (p := ⟨bk, 2, none⟩) (Nat.le_refl _) _⟩
    obtain ⟨g, l, e, hl, hr⟩ := hrow b hv
    subst e
    exact ⟨g, l, rfl, hl, hr.other (by have := (hf g hv).1; simp; omega) _, fun j hj => by omega⟩
  clear hrow hf hnone hB
  go_enter Try.func20, Try.ntmps20
  go_wp2
  go_loopw [5] (fun i wr => ∃ k : Nat, k ≤ n ∧ i = .int .i64 k ∧ Hid (Fill w wr bk L (nx - 1) lv mv gv gs va n k)) (fun i _ => n - (intOf i).toNat)
  case atStart => exact ⟨0, by omega, rfl, H0.out⟩
  case round =>
    clear H0 c2 f2
    obtain ⟨k, hk, rfl, HS⟩ := hrel
    by_cases hlt : k < n
    · cases va with
      | none => have := (HN.out rfl).1; omega
      | some b =>
        obtain ⟨g, l, rfl, hl, hr, hc⟩ := HS.out.row b rfl
        have cg : ∃ q, wr.cell? ⟨g, k, none⟩ = some (.int .i64 q) := ⟨_, hr.cell (by omega)⟩
        obtain ⟨q, cg⟩ := cg
        have fg : wr.frozen? ⟨g, k, none⟩ = false := hr.free k
        have R : Hid (Fill w (wr.setCell ⟨g, k, none⟩ (.int .i64 (nx - 1))) bk L (nx - 1) lv mv gv gs (some ⟨g, 0, none⟩) n (k + 1)) := by
          obtain ⟨h1, h2, h3, h4⟩ := HF.out g rfl
          refine ⟨HS.out.book.mine hr h1 h2 h3 h4 _ _, fun b hv => ?_, fun k' a1 a2 a3 => ?_, HS.out.below.setCell (by show bk ≤ g; omega) _⟩
          · injection hv with hv
            subst hv
            refine ⟨g, l.set k (nx - 1), rfl, by simp [hl], hr.set _ _, fun j hj => ?_⟩
            by_cases hjk : j = k
            · subst hjk; simp [hl, hlt]
            · have := hc j (by omega)
              simp [Ne.symm hjk] at this ⊢
              exact this
          · have hne : k' ≠ g := fun e => a3 (by rw [e]; rfl)
            rw [Below.heap_setCell _ _ _ _ hne]
            exact HS.out.kept k' a1 a2 a3
        clear hl hr hc HS
        go_wp2
        go_roundw
        case rel => exact ⟨k + 1, by omega, by go_num, R⟩
        case measure => simp [intOf]; omega
    · have HR := hid (HS.out.full (by omega))
      have hb0 := HS.out.book.lt
      have HRa : Hid (∀ o : Obj, ∀ b, va = some b → ∀ j u, (List.replicate n (Value.int .i64 (nx - 1)))[j]? = some u → (wr.alloc o).cell? (b.add j) = some u) := fun o => (HR.out.below ((Below.refl _ _).alloc (Nat.le_refl _) o)).holds
      go_wp2_with (at_builtin; refine wpList_append_grows _ rfl (.tmp 30) (.tmp 32) 27 rfl 3 i0 (.int .i64 0) 1 8 Try.underlying27 hi hz0 hz1 hz2 rfl (by decide) va n n (List.replicate n (Value.int .i64 (nx - 1))) rfl HN.out ?a1 (HRa.out _) ⟨wr.heap.size, 0, none⟩ 1 1 [.int .i64 (nx - 1)] rfl rfl (cell_one_new _ _ _) ?a2 ?a3 ?a4 ?a5 ?_)
      case a1 => simp
      case a2 => intro u hu; simp at hu; subst hu; rfl
      case a3 => omega
      case a4 => unfold maxLen; omega
      case a5 => omega
      intro o1 w1 hown1 hgrow1
      obtain ⟨a1, c1, rfl, _⟩ := owns_shape hown1
      have S1 := hid (owns_step (j := 1) HS.out.book HR.out hgrow1 (by exact hown1) (by simp) (by omega))
      clear hown1 hgrow1
      have HRb : Hid (∀ o : Obj, ∀ b, va = some b → ∀ j u, (List.replicate n (Value.int .i64 (nx - 1)))[j]? = some u → (w1.alloc o).cell? (b.add j) = some u) := fun o => (S1.out.2.1.below ((Below.refl _ _).alloc (Nat.le_refl _) o)).holds
      go_wp2_with (at_builtin; refine wpList_append_grows _ rfl (.tmp 34) (.tmp 37) 27 rfl 3 i0 (.int .i64 0) 1 8 Try.underlying27 hi hz0 hz1 hz2 rfl (by decide) va n n (List.replicate n (Value.int .i64 (nx - 1))) rfl HN.out ?b1 (HRb.out _) ⟨w1.heap.size, 0, none⟩ 2 2 [.int .i64 (nx - 1), .int .i64 (nx - 1)] rfl rfl (cells_new _ _ _) ?b2 ?b3 ?b4 ?b5 ?_)
      case b1 => simp
      case b2 => intro u hu; simp at hu; subst hu; rfl
      case b3 => omega
      case b4 => unfold maxLen; omega
      case b5 => omega
      intro o2 w2 hown2 hgrow2
      obtain ⟨a2, c2, rfl, _⟩ := owns_shape hown2
      have S2 := hid (owns_step (j := 2) S1.out.1 S1.out.2.1 hgrow2 (by exact hown2) (by simp) (by omega))
      clear hown2 hgrow2
      have HRc : Hid (∀ o : Obj, ∀ b, va = some b → ∀ j u, (List.replicate n (Value.int .i64 (nx - 1)))[j]? = some u → (w2.alloc o).cell? (b.add j) = some u) := fun o => (S2.out.2.1.below ((Below.refl _ _).alloc (Nat.le_refl _) o)).holds
      go_wp2_with (at_builtin; refine wpList_append_grows _ rfl (.tmp 39) (.tmp 43) 27 rfl 3 i0 (.int .i64 0) 1 8 Try.underlying27 hi hz0 hz1 hz2 rfl (by decide) va n n (List.replicate n (Value.int .i64 (nx - 1))) rfl HN.out ?d1 (HRc.out _) ⟨w2.heap.size, 0, none⟩ 3 3 [.int .i64 (nx - 1), .int .i64 (nx - 1), .int .i64 (nx - 1)] rfl rfl (cells_new _ _ _) ?d2 ?d3 ?d4 ?d5 ?_)
      case d1 => simp
      case d2 => intro u hu; simp at hu; subst hu; rfl
      case d3 => omega
      case d4 => unfold maxLen; omega
      case d5 => omega
      intro o3 w3 hown3 hgrow3
      obtain ⟨a3, c3, rfl, _⟩ := owns_shape hown3
      have S3 := hid (owns_step (j := 3) S2.out.1 S2.out.2.1 hgrow3 (by exact hown3) (by simp) (by omega))
      clear hown3 hgrow3 HRa HRb HRc
      obtain ⟨i27, hi27, hy0, hy1, hy2⟩ := info_parts info27
      have k0 := S3.out.1.cell0
      have hb3 := S3.out.1.lt
      go_wp2_with (at_builtin; refine wpList_append_track _ rfl (.tmp 49) (.tmp 54) 22 rfl (bk + 1) 27 i27 (.slice none 0 0) 1 24 Try.underlying22 hi27 hy0 hy1 hy2 rfl (by decide) _ _ _ rfl (S3.out.1.hl.alloc _) ⟨w3.heap.size, 0, none⟩ 4 4 [.slice va n n, .slice a1 (n + 1) c1, .slice a2 (n + 2) c2, .slice a3 (n + 3) c3] rfl rfl (cells_new _ _ _) ?e2 ?e3 ?e4 ?e5 ?_)
      case e2 => intro u hu; simp at hu; rcases hu with rfl | rfl | rfl | rfl <;> rfl
      case e3 => unfold maxLen; omega
      case e4 => omega
      case e5 => simp; omega
      intro lv' w4 hl' hg1 t1
      obtain ⟨la', lc', rfl, _⟩ := owns_shape hl'
      have HL' := hid hl'
      have HG1 := hid hg1
      have HT1 := hid t1
      have mid := S3.out.1.mid hg1 (.slice la' (L.length + 4) lc')
      have k0' : w4.cell? ⟨bk, 0, none⟩ = some lv := (cell_in (mid.1.trans S3.out.1.blk) (j := 0) rfl).1
      have f0' := (cell_in (mid.1.trans S3.out.1.blk) (j := 0) rfl).2
      have k1' : w4.cell? ⟨bk, 1, none⟩ = some mv := (cell_in (mid.1.trans S3.out.1.blk) (j := 1) rfl).1
      have f1' := (cell_in (mid.1.trans S3.out.1.blk) (j := 1) rfl).2
      have HM' := hid mid.2.2
      clear hl' hg1 t1 mid k0
      go_wp2_with (at_builtin; refine wpList_append_track _ rfl (.tmp 62) (.tmp 67) 27 rfl (bk + 1) 3 i0 (.int .i64 0) 1 8 Try.underlying27 hi hz0 hz1 hz2 rfl (by decide) _ _ _ rfl (HM'.out.alloc _) ⟨w4.heap.size, 0, none⟩ 4 4 [.int .i64 (nx - 1), .int .i64 (nx - 1), .int .i64 (nx - 1), .int .i64 (nx - 1)] rfl rfl ?g1 ?g2 ?g3 ?g4 ?g5 ?_)
      case g1 => have := cells_new (w4.setCell ⟨bk, 0, none⟩ (.slice la' (L.length + 4) lc')) #[.int .i64 (nx - 1), .int .i64 (nx - 1), .int .i64 (nx - 1), .int .i64 (nx - 1)] 3; simpa [World.setCell] using this
      case g2 => intro u hu; simp at hu; subst hu; rfl
      case g3 => unfold maxLen; omega
      case g4 => omega
      case g5 => have := HG1.out.size; simp [World.setCell] at this ⊢; omega
      intro mv' w6 hm' hg2 t2
      obtain ⟨ma', mc', rfl, _⟩ := owns_shape hm'
      have HMM := hid hm'
      have HG2 := hid hg2
      have HT2 := hid t2
      have k1'' : w6.cell? ⟨bk, 1, none⟩ = some mv := (cell_in (S3.out.1.mid2 HG1.out hg2) (j := 1) rfl).1
      have f1'' := (cell_in (S3.out.1.mid2 HG1.out hg2) (j := 1) rfl).2
      clear hm' hg2 t2
      go_wp2
      go_end0
      refine ⟨rfl, ?_⟩
      exact owns_end HS.out hn HN.out HF.out S1.out S2.out S3.out HG1.out HL'.out HT1.out HG2.out HMM.out HT2.out
end Go.Proofs.Ythdmjmnkhlpnnaa
