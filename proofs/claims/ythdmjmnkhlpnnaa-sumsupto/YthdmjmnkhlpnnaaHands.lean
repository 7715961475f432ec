/-
  What Book.hands and Book.takes do: the one list that is handed in.
-/
import Derived.Test.YthdmjmnkhlpnnaaBook
namespace Go.Proofs.Ythdmjmnkhlpnnaa
open Go.RowKit

section
variable {P : Program} (w : World)
/-- an append to an owned row: it is in the same block, or in a new one -/
theorem wpList_append_track {ops : Array Oper} {rest : List Oper} {o : Oper} {a : Act} {Q : Exit → Act → World → Prop} (hgd : o.guard = none) (s x : Operand) (t : TypeId)
    (ho : o.op = .call { callee := .builtin .append, args := #[s, x], argTypes := #[t, t] })
    (base : Nat) (e : TypeId) (i : TypeInfo) (z : Value) (size bytes : Nat) (ht : P.underlying t = some (.slice e)) (hi : P.info? e = some i) (hz : i.zero = some z)
    (hsize : i.size = size) (hby : i.bytes = bytes) (hzs : z.cells.size = size) (hsz : 0 < size)
    (v : Value) (n : Nat) (xs : List Value) (hs : a.eval s = v) (hown : w.ownsRow base e size v n xs)
    (ad : Addr) (m c : Nat) (news : List Value) (hx : a.eval x = .slice (some ad) m c) (hl : news.length = m * size) (hnews : ∀ j u, news[j]? = some u → w.cell? (ad.add j) = some u) (h1 : ∀ u ∈ news, u.oneCell' = true)
    (h63 : n + m ≤ maxLen) (hbytes : (n + m) * bytes ≤ 140737488355328) (hbase : base ≤ w.heap.size)
    (h : ∀ v' w', w'.ownsRow base e size v' (n + m) (xs ++ news) → w.grownBy w' v.ownBlock → (v'.ownBlock = v.ownBlock ∨ ∀ k, v'.ownBlock = some k → w.heap.size ≤ k) → wpList P ops Q rest (a.put o.dst v') w') : wpList P ops Q (o :: rest) a w := by
  have hc := hown.2
  rcases hc with ⟨rfl, rfl⟩ | ⟨g, cap, cur, rfl, hb, hg, hnc, hcm, hcs, htake⟩
  · have hxs : xs = [] := List.eq_nil_of_length_eq_zero (by simpa using hown.1)
    subst hxs
    refine wpList_append_own w hgd s x t ho w.heap.size e i z size bytes ht hi hz hsize hby hzs hsz _ 0 [] hs (World.ownsRow_nil _ _ _ _) ad m c news hx hl hnews h1 h63 hbytes (Nat.le_refl _) fun v' w' h2 h3 _ => ?_
    exact h v' w' (owns_mono h2 hbase) h3 (.inr fun k hk => (h2.lt k hk).1)
  · by_cases hroom : n + m ≤ cap
    · exact wpList_append_fits w hgd s x t ho base e i size ht hi hsize g n cap xs hs hown ad m c news hx hl hnews h1 hroom fun w' h2 h3 => h _ w' h2 h3 (.inl rfl)
    · refine wpList_append_grows w hgd s x t ho e i z size bytes ht hi hz hsize hby hzs hsz (some ⟨g, 0, none⟩) n cap xs hs (fun h => by cases h) hown.1 (fun b hb' => ?_) ad m c news hx hl hnews h1 (by omega) h63 hbytes fun v' w' h2 h3 => ?_
      · injection hb' with hb'
        subst hb'
        exact hown.cells (g := g) rfl
      · exact h v' w' (owns_mono h2 hbase) ⟨h3.os, h3.tape, h3.output, h3.size, fun k hk _ => h3.block k hk (by simp)⟩ (.inr fun k hk => (h2.lt k hk).1)
end

section
variable {w w1 : World} {bk : Nat} {L : List (Value × Int)} {nx : Int} {lv mv gv gv' : Value} {gs zs : List Int}
theorem Mark.regard {mv' : Value} {v : Value} {m : Int} (h : Mark w bk mv gv v m) (h1 : ∀ g, v.ownBlock = some g → mv'.ownBlock ≠ some g) (h2 : ∀ g, v.ownBlock = some g → gv'.ownBlock ≠ some g) : Mark w bk mv' gv' v m := by
  rcases h with h | ⟨g, n, c, cur, rfl, a1, a2, a3, a4, a5, a6⟩
  · exact .inl h
  · exact .inr ⟨g, n, c, cur, rfl, a1, h1 g rfl, h2 g rfl, a4, a5, a6⟩
theorem Mark.notmv {v : Value} {m : Int} (h : Mark w bk mv gv v m) (g : Nat) (hg : v.ownBlock = some g) : mv.ownBlock ≠ some g := by
  rcases h with rfl | ⟨g', n, c, cur, rfl, a1, a2, a3, a4, a5, a6⟩
  · simp [Value.ownBlock] at hg
  · simp [Value.ownBlock] at hg; subst hg; exact a2
theorem Mark.notgv {v : Value} {m : Int} (h : Mark w bk mv gv v m) (g : Nat) (hg : v.ownBlock = some g) : gv.ownBlock ≠ some g := by
  rcases h with rfl | ⟨g', n, c, cur, rfl, a1, a2, a3, a4, a5, a6⟩
  · simp [Value.ownBlock] at hg
  · simp [Value.ownBlock] at hg; subst hg; exact a3

/-- 'given' is written anew -/
theorem Book.given (h : Book w bk L nx lv mv gv gs) (hg : w.grownBy w1 gv.ownBlock) (hown : w1.ownsRow (bk + 1) 3 1 gv' zs.length (zs.map (Value.int .i64)))
    (ht : gv'.ownBlock = gv.ownBlock ∨ ∀ k, gv'.ownBlock = some k → w.heap.size ≤ k) : Book (w1.setCell ⟨bk, 3, none⟩ gv') bk L nx lv mv gv' zs := by
  have hb : gv.ownBlock ≠ some bk := owns_type h.hg h.blk (by decide)
  have e1 : w1.heap[bk]? = w.heap[bk]? := hg.block bk h.lt (fun e => hb e.symm)
  have same : ∀ k, k < w.heap.size → k ≠ bk → gv.ownBlock ≠ some k → (w1.setCell ⟨bk, 3, none⟩ gv').heap[k]? = w.heap[k]? := fun k h1 h2 h3 => by
    rw [Below.heap_setCell _ _ _ _ h2]
    exact hg.block k h1 (fun e => h3 e.symm)
  have notg : ∀ k, k < w.heap.size → gv.ownBlock ≠ some k → gv'.ownBlock ≠ some k := fun k h1 h2 h3 => by
    rcases ht with e | e
    · exact h2 (e ▸ h3)
    · have := e k h3; omega
  refine ⟨?_, ?_, ?_, ?_, ?_, ?_⟩
  · rw [setCell_eq_setRow w1 bk 3 #[lv, mv, .int .i64 nx, gv] 29 (0, 0) _ (e1.trans h.blk)]
    exact setRow_heap w1 bk #[lv, mv, .int .i64 nx, gv] _ 29 _ (e1.trans h.blk)
  · refine owns_kept h.hl fun k hk => same k (h.hl.lt k hk).2 (fun e => owns_type h.hl h.blk (by decide) (e ▸ hk)) ?_
    intro hgk
    obtain ⟨g, cap, cur, e, hh⟩ : ∃ g cap cur, lv = .slice (some ⟨g, 0, none⟩) L.length cap ∧ w.heap[g]? = some (.cells cur 27 (0, 0)) := by
      rcases h.hl.2 with ⟨rfl, _⟩ | ⟨g, cap, cur, e, _, hh, _⟩
      · simp [Value.ownBlock] at hk
      · exact ⟨g, cap, cur, e, hh⟩
    subst e
    simp [Value.ownBlock] at hk
    subst hk
    exact owns_type h.hg hh (by decide) hgk
  · exact owns_kept h.hm fun k hk => same k (h.hm.lt k hk).2 (fun e => owns_type h.hm h.blk (by decide) (e ▸ hk)) (h.dist k hk)
  · refine owns_kept hown fun k hk => Below.heap_setCell _ _ _ _ ?_
    intro e
    simp at e
    subst e
    rcases ht with e | e
    · exact hb (e ▸ hk)
    · have := e k hk; have := h.lt; omega
  · intro k hk
    exact notg k (h.hm.lt k hk).2 (h.dist k hk)
  · intro p hp
    have hm := h.marks p hp
    refine (hm.kept fun k hk => same k (hm.lt hk) ?_ (hm.notgv k hk)).regard hm.notmv fun k hk => notg k (hm.lt hk) (hm.notgv k hk)
    intro e
    exact hm.type h.blk (by decide) (e ▸ hk)
end

theorem owns_cut {w : World} {base : Nat} {e : TypeId} {ao : Option Addr} {n c : Nat} {xs : List Value} (h : w.ownsRow base e 1 (.slice ao n c) n xs) : w.ownsRow base e 1 (.slice ao 0 c) 0 [] := by
  refine ⟨rfl, ?_⟩
  rcases h.2 with ⟨e1, _⟩ | ⟨g, cap, cur, e1, hb, hg, hnc, hcm, hcs, htake⟩
  · injection e1 with e1 e2 e3
    subst e1 e3
    exact .inl ⟨rfl, rfl⟩
  · injection e1 with e1 e2 e3
    subst e1 e3
    exact .inr ⟨g, c, cur, rfl, hb, hg, by omega, hcm, hcs, by simp⟩
theorem seg_news {w : World} {a : Addr} {zs : List Int} (h : Seg w (some a) zs) : ∀ j u, (zs.map (Value.int .i64))[j]? = some u → w.cell? (a.add j) = some u := by
  intro j u hu
  have hj : j < zs.length := by
    rcases Nat.lt_or_ge j zs.length with h | h
    · exact h
    · rw [List.getElem?_eq_none (by simpa using h)] at hu; cases hu
  obtain ⟨b, off, e, hc⟩ := h (by omega)
  injection e with e
  subst e
  have e2 : (⟨b, off, none⟩ : Addr).add j = ⟨b, off + j, none⟩ := by unfold Addr.add; split <;> simp_all
  rw [e2, hc j hj]
  simp [hj] at hu
  simp [hj, hu]
theorem nums_oneCell (zs : List Int) : ∀ u ∈ zs.map (Value.int .i64), u.oneCell' = true := by
  intro u hu
  simp at hu
  obtain ⟨z, _, rfl⟩ := hu
  rfl

theorem own_cut (ga : Option Addr) (n c n' c' : Nat) : (Value.slice ga n c).ownBlock = (Value.slice ga n' c').ownBlock := by cases ga <;> rfl

theorem Book.hands {w w1 : World} {bk : Nat} {L : List (Value × Int)} {nx : Int} {lv mv gv gv' : Value} {gs zs : List Int} {ga : Option Addr} {gc : Nat} (h : Book w bk L nx lv mv gv gs) (hgv : gv = .slice ga gs.length gc)
    (hown : w1.ownsRow (bk + 1) 3 1 gv' (0 + zs.length) ([] ++ zs.map (Value.int .i64))) (hg : w.grownBy w1 (Value.slice ga 0 gc).ownBlock)
    (ht : gv'.ownBlock = (Value.slice ga 0 gc).ownBlock ∨ ∀ k, gv'.ownBlock = some k → w.heap.size ≤ k) :
    Book (w1.setCell ⟨bk, 3, none⟩ gv') bk L nx lv mv gv' zs ∧ Below bk w (w1.setCell ⟨bk, 3, none⟩ gv') ∧ w1.cell? ⟨bk, 3, none⟩ = some (.slice ga gs.length gc) ∧ w1.frozen? ⟨bk, 3, none⟩ = false := by
  have e : (Value.slice ga 0 gc).ownBlock = gv.ownBlock := by rw [hgv]; exact own_cut _ _ _ _ _
  rw [e] at hg ht
  rw [Nat.zero_add, List.nil_append] at hown
  have hb : gv.ownBlock ≠ some bk := owns_type h.hg h.blk (by decide)
  have e1 : w1.heap[bk]? = w.heap[bk]? := hg.block bk h.lt (fun e => hb e.symm)
  refine ⟨h.given hg hown ht, ((Below.refl _ _).grown hg (Nat.le_of_lt h.lt) (fun k hk => by have := (h.hg.lt k hk).1; omega)).setCell (Nat.le_refl _) _, ?_, ?_⟩
  · rw [World.cell?_of_block (w := w) e1, h.cell3, hgv]
  · rw [World.frozen?_of_block (w := w) e1, h.free 3]

set_option maxHeartbeats 1000000 in
theorem hands_some {w : World} {bk : Nat} {L : List (Value × Int)} {nx : Int} {lv mv gv : Value} {gs zs : List Int} (hB : Book w bk L nx lv mv gv gs) (a : Addr) (c : Nat) (hs : Seg w (some a) zs) (hz : zs.length ≤ 1048576) :
    Calls Try.prog 16 #[.pointer (some ⟨bk, 0, none⟩), .slice (some a) zs.length c] w fun e w' => ∃ gv', e = .returned gv' ∧ Book w' bk L nx lv mv gv' zs ∧ Below bk w w' := by
  obtain ⟨i0, hi, hz0, hz1, hz2⟩ := info_parts info3
  have HB : Hid (Book w bk L nx lv mv gv gs) := hB
  obtain ⟨ga, gc, hgv, _⟩ := owns_shape hB.hg
  have c3 : w.cell? ⟨bk, 3, none⟩ = some (.slice ga gs.length gc) := by rw [hB.cell3, hgv]
  have f3 : w.frozen? ⟨bk, 3, none⟩ = false := hB.free 3
  have HGV : Hid (gv = .slice ga gs.length gc) := hgv
  have hown : w.ownsRow (bk + 1) 3 1 (.slice ga 0 gc) 0 [] := by have := hB.hg; rw [hgv] at this; exact owns_cut this
  have hlt : bk < w.heap.size := hB.lt
  clear hgv hB
  go_enter Try.func16, Try.ntmps16
  go_wp2_with (at_builtin; refine wpList_append_track _ rfl (.tmp 10) (.tmp 11) 27 rfl (bk + 1) 3 i0 (.int .i64 0) 1 8 Try.underlying27 hi hz0 hz1 hz2 rfl (by decide) _ _ _ rfl hown a zs.length c (zs.map (Value.int .i64)) rfl ?c1 (seg_news hs) (nums_oneCell zs) ?c3 ?c4 ?c5 ?_)
  case c1 => simp
  case c3 => unfold maxLen; omega
  case c4 => omega
  case c5 => omega
  intro gv' w1 hown' hgrow htr
  obtain ⟨ga', gc', rfl, _⟩ := owns_shape hown'
  obtain ⟨R1, R2, c3', f3'⟩ := HB.out.hands HGV.out (by simpa using hown') hgrow htr
  have HR1 := hid R1
  have HR2 := hid R2
  clear R1 R2 hown' hgrow htr c3 f3 hown hs
  go_wp2
  go_ret
  exact ⟨_, rfl, HR1.out, HR2.out⟩

theorem Book.empty {w : World} {bk : Nat} {L : List (Value × Int)} {nx : Int} {lv mv gv : Value} {gs : List Int} {ga : Option Addr} {gc : Nat} (h : Book w bk L nx lv mv gv gs) (hgv : gv = .slice ga gs.length gc) :
    Book (w.setCell ⟨bk, 3, none⟩ (.slice ga 0 gc)) bk L nx lv mv (.slice ga 0 gc) [] := by
  have hc := h.hg
  rw [hgv] at hc
  exact h.given (gv' := .slice ga 0 gc) ⟨rfl, rfl, rfl, Nat.le_refl _, fun _ _ _ => rfl⟩ (owns_cut hc) (.inl (by rw [hgv]; exact own_cut _ _ _ _ _))

set_option maxHeartbeats 1000000 in
theorem hands_none {w : World} {bk : Nat} {L : List (Value × Int)} {nx : Int} {lv mv gv : Value} {gs : List Int} (hB : Book w bk L nx lv mv gv gs) :
    Calls Try.prog 16 #[.pointer (some ⟨bk, 0, none⟩), .slice none 0 0] w fun e w' => ∃ gv', e = .returned gv' ∧ Book w' bk L nx lv mv gv' [] ∧ Below bk w w' := by
  obtain ⟨i0, hi, hz0, hz1, hz2⟩ := info_parts info3
  have HB : Hid (Book w bk L nx lv mv gv gs) := hB
  obtain ⟨ga, gc, hgv, _⟩ := owns_shape hB.hg
  have c3 : w.cell? ⟨bk, 3, none⟩ = some (.slice ga gs.length gc) := by rw [hB.cell3, hgv]
  have f3 : w.frozen? ⟨bk, 3, none⟩ = false := hB.free 3
  have HGV : Hid (gv = .slice ga gs.length gc) := hgv
  have hown : w.ownsRow (bk + 1) 3 1 (.slice ga 0 gc) 0 [] := by have := hB.hg; rw [hgv] at this; exact owns_cut this
  clear hgv hB
  go_enter Try.func16, Try.ntmps16
  go_wp2_with (at_builtin; refine wpList_append_own_none rfl (.tmp 10) (.tmp 11) 27 rfl (bk + 1) 3 i0 1 Try.underlying27 hi _ _ _ rfl hown rfl ?_)
  go_ret
  exact ⟨_, rfl, HB.out.empty HGV.out, (Below.refl bk w).setCell (p := ⟨bk, 3, none⟩) (Nat.le_refl _) _⟩

theorem hands_any {w : World} {bk : Nat} {L : List (Value × Int)} {nx : Int} {lv mv gv : Value} {gs zs : List Int} (hB : Book w bk L nx lv mv gv gs) (ao : Option Addr) (c : Nat) (hs : Seg w ao zs) (hn : ao = none → zs.length = 0 ∧ c = 0) (hz : zs.length ≤ 1048576) :
    Calls Try.prog 16 #[.pointer (some ⟨bk, 0, none⟩), .slice ao zs.length c] w fun e w' => ∃ gv', e = .returned gv' ∧ Book w' bk L nx lv mv gv' zs ∧ Below bk w w' := by
  cases ao with
  | some a => exact hands_some hB a c hs hz
  | none =>
    obtain ⟨h1, rfl⟩ := hn rfl
    obtain rfl : zs = [] := List.eq_nil_of_length_eq_zero h1
    exact hands_none hB

/-- a number of 'given' is written -/
theorem Book.write {w : World} {bk : Nat} {L : List (Value × Int)} {nx : Int} {lv mv gv : Value} {gs : List Int} {g gc : Nat} (h : Book w bk L nx lv mv gv gs) (hgv : gv = .slice (some ⟨g, 0, none⟩) gs.length gc) (j : Nat) (v : Int) :
    Book (w.setCell ⟨g, j, none⟩ (.int .i64 v)) bk L nx lv mv gv (gs.set j v) := by
  have hob : gv.ownBlock = some g := by rw [hgv]; rfl
  have hb : g ≠ bk := fun e => owns_type h.hg h.blk (by decide) (e ▸ hob)
  have same : ∀ k, k ≠ g → (w.setCell ⟨g, j, none⟩ (.int .i64 v)).heap[k]? = w.heap[k]? := fun k h2 => Below.heap_setCell _ _ _ _ h2
  refine ⟨?_, ?_, ?_, ?_, h.dist, ?_⟩
  · rw [same bk (Ne.symm hb)]; exact h.blk
  · refine owns_kept h.hl fun k hk => same k ?_
    intro e
    subst e
    rcases h.hl.2 with ⟨rfl, _⟩ | ⟨g', cap, cur, rfl, _, hh, _⟩
    · simp [Value.ownBlock] at hk
    · simp [Value.ownBlock] at hk
      subst hk
      exact owns_type h.hg hh (by decide) hob
  · exact owns_kept h.hm fun k hk => same k fun e => h.dist k hk (e ▸ hob)
  · rcases h.hg.2 with ⟨e, _⟩ | ⟨g', cap, cur, e, hbb, hh, hnc, hcm, hcs, htake⟩
    · rw [hgv] at e; cases e
    · rw [hgv] at e
      injection e with e1 e2 e3
      injection e1 with e1
      injection e1 with e1
      subst e1 e3
      refine ⟨by simp, .inr ⟨g, gc, cur.setIfInBounds j (.int .i64 v), by rw [hgv]; simp, hbb, ?_, by simpa using hnc, hcm, by simpa using hcs, ?_⟩⟩
      · rw [setCell_eq_setRow w g j cur 3 (0, 0) _ hh]
        exact setRow_heap w g cur _ 3 _ hh
      · simp only [List.length_set, Nat.mul_one] at htake ⊢
        rw [Array.toList_setIfInBounds, List.take_set, htake, List.map_set]
  · intro p hp
    have hm := h.marks p hp
    exact hm.kept fun k hk => same k fun e => hm.notgv k hk (e ▸ hob)

set_option maxHeartbeats 1000000 in
theorem takes_any {w : World} {bk : Nat} {L : List (Value × Int)} {nx : Int} {lv mv gv : Value} {gs : List Int} (hB : Book w bk L nx lv mv gv gs) (hz : gs.length ≤ 1048576) :
    Calls Try.prog 19 #[.pointer (some ⟨bk, 0, none⟩)] w fun e w' => e = .returned (.tuple #[]) ∧ (∃ gs', Book w' bk L nx lv mv gv gs') ∧ Below bk w w' ∧ w.grownBy w' gv.ownBlock := by
  have HB0 : Hid (Book w bk L nx lv mv gv gs) := hB
  obtain ⟨ga, gc, hgv, _⟩ := owns_shape hB.hg
  have HGV : Hid (gv = .slice ga gs.length gc) := hgv
  clear hgv
  go_enter Try.func19, Try.ntmps19
  go_wp2
  go_loopw [2] (fun i wr => ∃ (k : Nat) (gs' : List Int), k ≤ gs.length ∧ i = .int .i64 k ∧ Hid (Book wr bk L nx lv mv gv gs' ∧ gs'.length = gs.length ∧ Below bk w wr ∧ w.grownBy wr gv.ownBlock)) (fun i _ => gs.length - (intOf i).toNat)
  case atStart => exact ⟨0, gs, by omega, rfl, HB0.out, rfl, Below.refl _ _, ⟨rfl, rfl, rfl, Nat.le_refl _, fun _ _ _ => rfl⟩⟩
  case round =>
    obtain ⟨k, gs', hk, rfl, HR⟩ := hrel
    have c3 : wr.cell? ⟨bk, 3, none⟩ = some (.slice ga gs.length gc) := by rw [HR.out.1.cell3, HGV.out]
    clear hB
    by_cases hlt : k < gs.length
    · obtain ⟨g, gc', hv, hbg, _, hc⟩ := owns_at HR.out.1.hg (by have := HR.out.2.1; omega)
      have hv' := hv
      rw [HGV.out] at hv
      injection hv with e1 e2 e3
      subst e1 e3
      have hlen := HR.out.2.1
      have cg : ∃ q, wr.cell? ⟨g, k, none⟩ = some (.int .i64 q) := ⟨gs'.getD k 0, by rw [hc k (by omega)]; simp [show k < gs'.length by omega]⟩
      obtain ⟨q, cg⟩ := cg
      have fg : wr.frozen? ⟨g, k, none⟩ = false := by
        rcases HR.out.1.hg.2 with ⟨e, _⟩ | ⟨g', cap, cur, e, _, hh, _⟩
        · rw [HGV.out] at e; cases e
        · rw [HGV.out] at e
          injection e with e1 e2 e3
          injection e1 with e1
          injection e1 with e1
          subst e1
          simp [World.frozen?, hh]
      have HV : Hid (gv = .slice (some ⟨g, 0, none⟩) gs'.length gc) := hv'
      clear hc hv' hlen e2
      go_wp2
      go_roundw
      case rel =>
        refine ⟨k + 1, gs'.set k (1 + (k : Int) % 7), by omega, by go_num, HR.out.1.write HV.out k _, by rw [List.length_set]; exact HR.out.2.1, HR.out.2.2.1.setCell (by show bk ≤ g; omega) _, ?_⟩
        have h4 := HR.out.2.2.2
        have hob : gv.ownBlock = some g := by rw [HV.out]; rfl
        exact ⟨h4.os, h4.tape, h4.output, by simpa [World.setCell] using h4.size, fun k' h1 h2 => by rw [Below.heap_setCell _ _ _ _ (fun e => h2 (by rw [hob, e]))]; exact h4.block k' h1 h2⟩
      case measure => simp [intOf]; omega
    · go_wp2
      go_end0
      exact ⟨rfl, ⟨gs', HR.out.1⟩, HR.out.2.2.1, HR.out.2.2.2⟩
end Go.Proofs.Ythdmjmnkhlpnnaa
