/-
  A region that lays one value of many cells into two results: whatever its order.
-/
import Derived.Test.YthdmjmnkhlpnnaaDoorRfx
namespace Go.Proofs.YthdmjmnkhlpnnaaDoor
open Go.RowKit

theorem setRow_same {w : World} {g : Nat} {cs : Array Value} {t : TypeId} {fr : Nat × Nat} (h : w.heap[g]? = some (.cells cs t fr)) : w.setRow g cs = w := by
  have e : (w.setRow g cs).heap = w.heap := by
    apply Array.ext_getElem?
    intro i
    by_cases hi : i = g
    · subst hi
      rw [setRow_heap w i cs cs t fr h, h]
    · exact setRow_other w g i cs hi
  have e2 : w.setRow g cs = { w with heap := (w.setRow g cs).heap } := rfl
  rw [e2, e]
theorem step_load_row {P : Program} {ops : Array Oper} {o : Oper} {a : Act} {w : World} {K : Act → World → Prop} {Q : Exit → Act → World → Prop} {X : Prop} (hgd : o.guard = none) (ty : TypeId) (x : Operand) (ho : o.op = .load ty x)
    (g : Nat) (hx : a.eval x = .pointer (some ⟨g, 0, none⟩)) (t : TypeId) (cs : Array Value) (fr : Nat × Nat) (d : TypeDesc) (hg : w.heap[g]? = some (.cells cs t fr))
    (hu : P.underlying ty = some d) (hd : (match d with | .struct _ | .array _ _ => true | _ => false) = true) (hi : (P.info? ty).map (·.size) = some cs.size)
    (h : K (a.put o.dst (.agg cs)) w) : if Region.wanted o (yielded ops a.tmps) = true then Oper.wp P o a w K Q else X := by
  rw [if_pos (by simp [Region.wanted, hgd])]
  exact wp_load_row ty x ho g hx t cs fr d hg hu hd hi h
theorem step_store_row {P : Program} {ops : Array Oper} {o : Oper} {a : Act} {w : World} {K : Act → World → Prop} {Q : Exit → Act → World → Prop} {X : Prop} (hgd : o.guard = none) (ty : TypeId) (x y : Operand) (ho : o.op = .store ty x y)
    (g : Nat) (cells : Array Value) (hx : a.eval x = .pointer (some ⟨g, 0, none⟩)) (hy : a.eval y = .agg cells)
    (t : TypeId) (hg : w.heap[g]? = some (.cells cells t (0, 0))) (hi : (P.info? ty).map (·.size) = some cells.size)
    (h1 : cells.all (·.oneCell') = true)
    (h : K (a.put o.dst undef) w) : if Region.wanted o (yielded ops a.tmps) = true then Oper.wp P o a w K Q else X := by
  rw [if_pos (by simp [Region.wanted, hgd])]
  refine wp_store_row ty x y ho g cells hx hy t cells hg hi rfl h1 ?_
  rw [setRow_same hg]
  exact h
theorem eval_put_ne (a : Act) (d t : Tmp) (v : Value) (h : d ≠ t) : (a.put (some d) v).eval (.tmp t) = a.eval (.tmp t) := by
  simp [Act.put, Act.eval, h]
theorem eval_put_same (a : Act) (d : Tmp) (v : Value) (h : d < a.tmps.size) : (a.put (some d) v).eval (.tmp d) = v := by
  simp [Act.put, Act.eval, h]
theorem put_comm (a : Act) (d e : Tmp) (u v : Value) (h : d ≠ e) : (a.put (some d) u).put (some e) v = (a.put (some e) v).put (some d) u := by
  simp only [Act.put]
  rw [Array.setIfInBounds_comm _ _ h]
theorem put_size (a : Act) (d : Tmp) (v : Value) : (a.put (some d) v).tmps.size = a.tmps.size := by simp [Act.put]

theorem ret_two {P : Program} {id T d1 d2 z x y gz gx gy : Nat} {p1 p2 p3 p4 : String} {Q : Exit → Act → World → Prop} {a : Act} {w : World} (cs : Array Value) (D : TypeDesc) (hm : P.follows .mixedOrders = true)
    (hz : a.eval (.tmp z) = .pointer (some ⟨gz, 0, none⟩)) (hx : a.eval (.tmp x) = .pointer (some ⟨gx, 0, none⟩)) (hy : a.eval (.tmp y) = .pointer (some ⟨gy, 0, none⟩))
    (hne : d1 ≠ z ∧ d1 ≠ x ∧ d1 ≠ y ∧ d2 ≠ z ∧ d2 ≠ x ∧ d2 ≠ y ∧ d1 ≠ d2) (hs : d1 < a.tmps.size ∧ d2 < a.tmps.size)
    (bz : w.heap[gz]? = some (.cells cs T (0, 0))) (bx : w.heap[gx]? = some (.cells cs T (0, 0))) (by' : w.heap[gy]? = some (.cells cs T (0, 0)))
    (hu : P.underlying T = some D) (hd : (match D with | .struct _ | .array _ _ => true | _ => false) = true) (hi : (P.info? T).map (·.size) = some cs.size) (h1 : cs.all (·.oneCell') = true)
    (h : Q .normal ((a.put (some d1) (.agg cs)).put (some d2) (.agg cs)) w.drew) :
    (Code.region id #[{ dst := some d1, op := .load T (.tmp z), type := T, pos := p1, after := #[], guard := none },
      { dst := some d2, op := .load T (.tmp z), type := T, pos := p2, after := #[{ on := 2, ground := .gcOnly .lateStores }], guard := none },
      { dst := none, op := .store T (.tmp x) (.tmp d1), type := 0, pos := p3, after := #[{ on := 0, ground := .data }, { on := 0, ground := .phase }, { on := 1, ground := .textOnly .lateStores }], guard := none },
      { dst := none, op := .store T (.tmp y) (.tmp d2), type := 0, pos := p4, after := #[{ on := 1, ground := .data }, { on := 2, ground := .chain }, { on := 0, ground := .phase }, { on := 1, ground := .phase }, { on := 2, ground := .phase }], guard := none }] true).wp P Q a w := by
  obtain ⟨n1, n2, n3, n4, n5, n6, n7⟩ := hne
  obtain ⟨s1, s2⟩ := hs
  have n8 : d2 ≠ d1 := Ne.symm n7
  have cz : w.drew.heap[gz]? = some (.cells cs T (0, 0)) := bz
  have cx : w.drew.heap[gx]? = some (.cells cs T (0, 0)) := bx
  have cy : w.drew.heap[gy]? = some (.cells cs T (0, 0)) := by'
  refine wp_region_any hm ?_
  change wpAny _ _ _ _ _ _ _ (World.drew _)
  generalize w.drew = W at cz cx cy h ⊢
  refine wpAny_ready (rs := [0, 1]) (by kernel_rfl) (by simp) ?_
  refine AllReady.cons rfl (fun K hK => ?_) (AllReady.cons rfl (fun K hK => ?_) AllReady.nil)
  · refine step_load_row rfl T (.tmp z) rfl gz hz T cs (0, 0) D cz hu hd hi (hK _ _ ?_)
    clear hK K
    refine wpAny_ready (rs := [1, 2]) (by kernel_rfl) (by simp) ?_
    refine AllReady.cons rfl (fun K hK => ?_) (AllReady.cons rfl (fun K hK => ?_) AllReady.nil)
    · refine step_load_row rfl T (.tmp z) rfl gz (by show (a.put (some d1) _).eval _ = _; rw [eval_put_ne _ _ _ _ n1]; exact hz) T cs (0, 0) D cz hu hd hi (hK _ _ ?_)
      clear hK K
      refine wpAny_ready (rs := [2]) (by kernel_rfl) (by simp) ?_
      refine AllReady.cons rfl (fun K hK => ?_) AllReady.nil
      refine step_store_row rfl T (.tmp x) (.tmp d1) rfl gx cs (by show ((a.put (some d1) _).put (some d2) _).eval _ = _; rw [eval_put_ne _ _ _ _ n5, eval_put_ne _ _ _ _ n2]; exact hx) (by show ((a.put (some d1) _).put (some d2) _).eval _ = _; rw [eval_put_ne _ _ _ _ n8, eval_put_same _ _ _ s1]) T cx hi h1 (hK _ _ ?_)
      clear hK K
      refine wpAny_ready (rs := [3]) (by kernel_rfl) (by simp) ?_
      refine AllReady.cons rfl (fun K hK => ?_) AllReady.nil
      refine step_store_row rfl T (.tmp y) (.tmp d2) rfl gy cs (by show ((a.put (some d1) _).put (some d2) _).eval _ = _; rw [eval_put_ne _ _ _ _ n6, eval_put_ne _ _ _ _ n3]; exact hy) (by show ((a.put (some d1) _).put (some d2) _).eval _ = _; rw [eval_put_same _ _ _ (by rw [put_size]; exact s2)]) T cy hi h1 (hK _ _ ?_)
      refine wpAny_done (by kernel_rfl) ?_ _
      exact h
    · refine step_store_row rfl T (.tmp x) (.tmp d1) rfl gx cs (by show (a.put (some d1) _).eval _ = _; rw [eval_put_ne _ _ _ _ n2]; exact hx) (by show (a.put (some d1) _).eval _ = _; rw [eval_put_same _ _ _ s1]) T cx hi h1 (hK _ _ ?_)
      clear hK K
      refine wpAny_ready (rs := [1]) (by kernel_rfl) (by simp) ?_
      refine AllReady.cons rfl (fun K hK => ?_) AllReady.nil
      refine step_load_row rfl T (.tmp z) rfl gz (by show (a.put (some d1) _).eval _ = _; rw [eval_put_ne _ _ _ _ n1]; exact hz) T cs (0, 0) D cz hu hd hi (hK _ _ ?_)
      clear hK K
      refine wpAny_ready (rs := [3]) (by kernel_rfl) (by simp) ?_
      refine AllReady.cons rfl (fun K hK => ?_) AllReady.nil
      refine step_store_row rfl T (.tmp y) (.tmp d2) rfl gy cs (by show ((a.put (some d1) _).put (some d2) _).eval _ = _; rw [eval_put_ne _ _ _ _ n6, eval_put_ne _ _ _ _ n3]; exact hy) (by show ((a.put (some d1) _).put (some d2) _).eval _ = _; rw [eval_put_same _ _ _ (by rw [put_size]; exact s2)]) T cy hi h1 (hK _ _ ?_)
      refine wpAny_done (by kernel_rfl) ?_ _
      exact h
  · refine step_load_row rfl T (.tmp z) rfl gz hz T cs (0, 0) D cz hu hd hi (hK _ _ ?_)
    clear hK K
    refine wpAny_ready (rs := [0]) (by kernel_rfl) (by simp) ?_
    refine AllReady.cons rfl (fun K hK => ?_) AllReady.nil
    refine step_load_row rfl T (.tmp z) rfl gz (by show (a.put (some d2) _).eval _ = _; rw [eval_put_ne _ _ _ _ n4]; exact hz) T cs (0, 0) D cz hu hd hi (hK _ _ ?_)
    clear hK K
    show wpAny _ _ _ _ _ _ ((a.put (some d2) _).put (some d1) _) _
    rw [put_comm a d2 d1 _ _ n8]
    refine wpAny_ready (rs := [2]) (by kernel_rfl) (by simp) ?_
    refine AllReady.cons rfl (fun K hK => ?_) AllReady.nil
    refine step_store_row rfl T (.tmp x) (.tmp d1) rfl gx cs (by show ((a.put (some d1) _).put (some d2) _).eval _ = _; rw [eval_put_ne _ _ _ _ n5, eval_put_ne _ _ _ _ n2]; exact hx) (by show ((a.put (some d1) _).put (some d2) _).eval _ = _; rw [eval_put_ne _ _ _ _ n8, eval_put_same _ _ _ s1]) T cx hi h1 (hK _ _ ?_)
    clear hK K
    refine wpAny_ready (rs := [3]) (by kernel_rfl) (by simp) ?_
    refine AllReady.cons rfl (fun K hK => ?_) AllReady.nil
    refine step_store_row rfl T (.tmp y) (.tmp d2) rfl gy cs (by show ((a.put (some d1) _).put (some d2) _).eval _ = _; rw [eval_put_ne _ _ _ _ n6, eval_put_ne _ _ _ _ n3]; exact hy) (by show ((a.put (some d1) _).put (some d2) _).eval _ = _; rw [eval_put_same _ _ _ (by rw [put_size]; exact s2)]) T cy hi h1 (hK _ _ ?_)
    refine wpAny_done (by kernel_rfl) ?_ _
    exact h
end Go.Proofs.YthdmjmnkhlpnnaaDoor
