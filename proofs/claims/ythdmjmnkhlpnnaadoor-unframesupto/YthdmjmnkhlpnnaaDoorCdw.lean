/-
  What baleref.coder answers.
-/
import Derived.Test.YthdmjmnkhlpnnaaDoorCdr
import Derived.Test.YthdmjmnkhlpnnaaDoorRfo
namespace Go.Proofs.YthdmjmnkhlpnnaaDoor
open Go.RowKit

def cF (zs : List Int) (j : Nat) : Int := if 0 < cnt zs j then (fst zs j : Int) else 0
def cA (zs : List Int) (j : Nat) : Int := if j = 0 then 0 else (plc zs (j - 1) : Int)
theorem info46' (f m a : Nat → Int) (sv : Value) : (Tryd.prog.info? 47).map (·.size) = some (cd4 f m a sv).size := by rw [cd4_size]; kernel_rfl
theorem cd4_zero : #[Value.int IntKind.i64 0, Value.int IntKind.i64 0, Value.int IntKind.i64 0, Value.int IntKind.i64 0, Value.int IntKind.i64 0, Value.int IntKind.i64 0, Value.int IntKind.i64 0, Value.int IntKind.i64 0, Value.int IntKind.i64 0, Value.int IntKind.i64 0, Value.int IntKind.i64 0, Value.int IntKind.i64 0, Value.int IntKind.i64 0, Value.int IntKind.i64 0, Value.int IntKind.i64 0, Value.int IntKind.i64 0, Value.int IntKind.i64 0, Value.int IntKind.i64 0, Value.int IntKind.i64 0, Value.int IntKind.i64 0, Value.int IntKind.i64 0, Value.int IntKind.i64 0, Value.int IntKind.i64 0, Value.int IntKind.i64 0, Value.int IntKind.i64 0, Value.int IntKind.i64 0, Value.int IntKind.i64 0, Value.int IntKind.i64 0, Value.int IntKind.i64 0, Value.int IntKind.i64 0, Value.int IntKind.i64 0, Value.int IntKind.i64 0, Value.int IntKind.i64 0, Value.int IntKind.i64 0, Value.int IntKind.i64 0, Value.int IntKind.i64 0, Value.int IntKind.i64 0, Value.int IntKind.i64 0, Value.int IntKind.i64 0, Value.int IntKind.i64 0, Value.int IntKind.i64 0, Value.int IntKind.i64 0, Value.int IntKind.i64 0, Value.int IntKind.i64 0, Value.int IntKind.i64 0, Value.int IntKind.i64 0, Value.int IntKind.i64 0, Value.int IntKind.i64 0, Value.slice none 0 0] = cd4 (fun _ => 0) (fun _ => 0) (fun _ => 0) (.slice none 0 0) := by rfl
theorem start_cd (w : World) (z : Array Value) (hz : z = cd4 (fun _ => 0) (fun _ => 0) (fun _ => 0) (.slice none 0 0)) :
    Cd4 ((w.alloc (.cells z 47)).alloc (.cells z 47)) w.heap.size (fun _ => 0) (fun _ => 0) (fun _ => 0) (.slice none 0 0) ∧ Cd4 ((w.alloc (.cells z 47)).alloc (.cells z 47)) (w.heap.size + 1) (fun _ => 0) (fun _ => 0) (fun _ => 0) (.slice none 0 0) ∧ Below w.heap.size w ((w.alloc (.cells z 47)).alloc (.cells z 47)) := by
  subst hz
  have s1 : ∀ (u : World) (o : Obj), (u.alloc o).heap.size = u.heap.size + 1 := fun u o => by simp
  refine ⟨?_, ?_, (((Below.refl _ _).alloc (Nat.le_refl _) _).alloc (by simp) _)⟩
  · unfold Cd4
    rw [Below.heap_alloc _ _ _ (by rw [s1]; omega)]
    exact heap_alloc_new w _
  · unfold Cd4
    have := heap_alloc_new (w.alloc (.cells (cd4 (fun _ => 0) (fun _ => 0) (fun _ => 0) (.slice none 0 0)) 47)) (.cells (cd4 (fun _ => 0) (fun _ => 0) (fun _ => 0) (.slice none 0 0)) 47)
    rw [s1] at this
    exact this
theorem Cd4.below {w w' : World} {b B : Nat} {f m a : Nat → Int} {sv : Value} (h : Cd4 w b f m a sv) (hb : Below B w w') (hl : b < B) : Cd4 w' b f m a sv := (hb.block b hl).trans h
theorem bt_first (zs : List Int) (i n : Nat) (hn : 0 < n) (h : zs.getD i 0 = (n : Int)) (h0 : cnt (zs.take i) n = 0) : bt zs i = fst zs n := by
  unfold bt
  rw [h, if_pos (by omega), Int.toNat_natCast, h0]
  rfl

theorem Kp.setX {X : TypeId} {B : Nat} {a w : World} (h : Kp X B a w) {C : Nat} {cs : Array Value} {fr : Nat × Nat} (hC : w.heap[C]? = some (.cells cs X fr)) (hB : B ≤ C) {q : Addr} (hq : q.block = C) (u : Value) : Kp X B a (w.setCell q u) :=
  h.trans ⟨(Below.refl _ _).setCell (by omega) u, fun k cs' T fr' hk hT _ => Below.heap_setCell _ _ _ _ (fun e => by
    rw [e, hq, hC] at hk; injection hk with hk; injection hk with _ hk _; exact hT hk.symm)⟩
theorem Cd4.other {w : World} {b : Nat} {f m a : Nat → Int} {sv : Value} (h : Cd4 w b f m a sv) {q : Addr} (hq : b ≠ q.block) (u : Value) : Cd4 (w.setCell q u) b f m a sv := by
  unfold Cd4; rw [Below.heap_setCell _ _ _ _ hq]; exact h
theorem Cd4.lt {w : World} {b : Nat} {f m a : Nat → Int} {sv : Value} (h : Cd4 w b f m a sv) : b < w.heap.size := (Array.getElem?_eq_some_iff.1 h).1
theorem Cd4.alloc {w : World} {b : Nat} {f m a : Nat → Int} {sv : Value} (h : Cd4 w b f m a sv) (o : Obj) : Cd4 (w.alloc o) b f m a sv := by
  unfold Cd4; rw [Below.heap_alloc _ _ _ h.lt]; exact h
theorem Cd4.grown {w w' : World} {b : Nat} {f m a : Nat → Int} {sv : Value} (h : Cd4 w b f m a sv) {row : Option Nat} (hg : w.grownBy w' row) (hr : some b ≠ row) : Cd4 w' b f m a sv := (hg.block b h.lt hr).trans h
theorem own_lower {w : World} {base base' n : Nat} {e size : Nat} {v : Value} {xs : List Value} (h : w.ownsRow base e size v n xs) (hb : base' ≤ base) : w.ownsRow base' e size v n xs := by
  obtain ⟨h1, h2⟩ := h
  refine ⟨h1, ?_⟩
  rcases h2 with h2 | ⟨g, cap, cur, hv, hg, r⟩
  · exact Or.inl h2
  · exact Or.inr ⟨g, cap, cur, hv, by omega, r⟩
theorem own_kp46 {B : Nat} {w w' : World} {base n : Nat} {v : Value} {xs : List Value} (h : w.ownsRow base 3 1 v n xs) (hk : Kp 47 B w w') : w'.ownsRow base 3 1 v n xs := by
  obtain ⟨h1, h2⟩ := h
  refine ⟨h1, ?_⟩
  rcases h2 with h2 | ⟨g, cap, cur, hv, hg, hh, r⟩
  · exact Or.inl h2
  · exact Or.inr ⟨g, cap, cur, hv, hg, hk.cells hh (by decide) (by decide), r⟩

/-- the code as far as it is made: lengths below n, and the first i symbols for n -/
structure Cst (zs : List Int) (w w1 wr : World) (n i : Nat) (sv : Value) : Prop where
  res : Cd4 wr w.heap.size (fun _ => 0) (fun _ => 0) (fun _ => 0) (.slice none 0 0)
  cod : Cd4 wr (w.heap.size + 1) (fun j => if j < n then cF zs j else if j = n then (if 0 < cnt (zs.take i) n then (fst zs n : Int) else 0) else 0) (fun j => if j < n then (cnt zs j : Int) else if j = n then (cnt (zs.take i) n : Int) else 0) (fun j => if j ≤ n then cA zs j else 0) sv
  own : wr.ownsRow w1.heap.size 3 1 sv (plc zs (n - 1) + cnt (zs.take i) n) (ivs (st zs (n - 1) ++ sa zs n i))
  kp : Kp 47 w.heap.size w1 wr
structure Cso (zs : List Int) (w w1 wr : World) (n : Nat) (sv : Value) : Prop where
  res : Cd4 wr w.heap.size (fun _ => 0) (fun _ => 0) (fun _ => 0) (.slice none 0 0)
  cod : Cd4 wr (w.heap.size + 1) (fun j => if j < n then cF zs j else 0) (fun j => if j < n then (cnt zs j : Int) else 0) (fun j => if j < n then cA zs j else 0) sv
  own : wr.ownsRow w1.heap.size 3 1 sv (plc zs (n - 1)) (ivs (st zs (n - 1)))
  kp : Kp 47 w.heap.size w1 wr
theorem Cso.start {zs : List Int} {w w1 wr : World} {n : Nat} {sv : Value} (h : Cso zs w w1 wr n sv) (hn : 0 < n) (h15 : n ≤ 15) (hz : w.heap.size + 1 < w1.heap.size) : Cst zs w w1 (wr.setCell ⟨w.heap.size + 1, 32 + n, none⟩ (.int .i64 (plc zs (n - 1) : Int))) n 0 sv := by
  refine ⟨h.res.other (by simp) _, (h.cod.seta n (by omega) _).congr (fun j _ => ?_) (fun j _ => ?_) (fun j _ => ?_), ?_, h.kp.setX h.cod (by omega) rfl _⟩
  · simp only [List.take_zero]
    split
    · rfl
    · split
      · simp [cnt]
      · rfl
  · simp only [List.take_zero]
    split
    · rfl
    · split
      · simp [cnt]
      · rfl
  · by_cases e : j = n
    · subst e
      rw [if_pos rfl, if_pos (Nat.le_refl _)]
      unfold cA
      rw [if_neg (by omega)]
    · rw [if_neg e]
      by_cases e2 : j < n
      · rw [if_pos e2, if_pos (by omega)]
      · rw [if_neg e2, if_neg (by omega)]
  · have := ownsRow_setCell_below h.own (a := ⟨w.heap.size + 1, 32 + n, none⟩) (by exact hz) (.int .i64 (plc zs (n - 1) : Int))
    rw [show plc zs (n - 1) + cnt (zs.take 0) n = plc zs (n - 1) by simp [cnt], show st zs (n - 1) ++ sa zs n 0 = st zs (n - 1) by simp [sa]]
    exact this
theorem Cst.skip {zs : List Int} {w w1 wr : World} {n i : Nat} {sv : Value} (h : Cst zs w w1 wr n i sv) (hi : i < zs.length) (hne : ¬ zs.getD i 0 = (n : Int)) : Cst zs w w1 wr n (i + 1) sv := by
  have e1 : cnt (zs.take (i + 1)) n = cnt (zs.take i) n := by
    rw [take_snocI zs i hi]
    by_cases h0 : 0 < zs.getD i 0
    · have := cnt_snoc (zs.take i) (zs.getD i 0) h0 n
      rw [if_neg (by omega)] at this
      omega
    · exact cnt_skip _ _ (by omega) _
  have e2 : sa zs n (i + 1) = sa zs n i := by rw [sa, if_neg hne, List.append_nil]
  refine ⟨h.res, ?_, ?_, h.kp⟩
  · have := h.cod
    simp only [e1]
    exact this
  · rw [e1, e2]; exact h.own
theorem Cst.done {zs : List Int} {w w1 wr : World} {n : Nat} {sv : Value} (h : Cst zs w w1 wr n zs.length sv) (hn : 0 < n) : Cso zs w w1 wr (n + 1) sv := by
  refine ⟨h.res, h.cod.congr (fun j _ => ?_) (fun j _ => ?_) (fun j _ => ?_), ?_, h.kp⟩
  · rw [List.take_of_length_le (Nat.le_refl _)]
    by_cases e : j < n
    · rw [if_pos e, if_pos (by omega)]
    · rw [if_neg e]
      by_cases e2 : j = n
      · subst e2; rw [if_pos rfl, if_pos (show j < j + 1 by omega)]; rfl
      · rw [if_neg e2, if_neg (by omega)]
  · rw [List.take_of_length_le (Nat.le_refl _)]
    by_cases e : j < n
    · rw [if_pos e, if_pos (by omega)]
    · rw [if_neg e]
      by_cases e2 : j = n
      · subst e2; rw [if_pos rfl, if_pos (by omega)]
      · rw [if_neg e2, if_neg (by omega)]
  · by_cases e : j ≤ n
    · rw [if_pos e, if_pos (by omega)]
    · rw [if_neg e, if_neg (by omega)]
  · have := h.own
    rw [List.take_of_length_le (Nat.le_refl _)] at this
    obtain ⟨m, rfl⟩ : ∃ m, n = m + 1 := ⟨n - 1, by omega⟩
    exact this
/-- a symbol of that length: counted, not yet laid -/
structure Csa (zs : List Int) (w w1 wr : World) (n i : Nat) (sv : Value) : Prop where
  res : Cd4 wr w.heap.size (fun _ => 0) (fun _ => 0) (fun _ => 0) (.slice none 0 0)
  cod : Cd4 wr (w.heap.size + 1) (fun j => if j < n then cF zs j else if j = n then (if 0 < cnt (zs.take (i + 1)) n then (fst zs n : Int) else 0) else 0) (fun j => if j < n then (cnt zs j : Int) else if j = n then (cnt (zs.take (i + 1)) n : Int) else 0) (fun j => if j ≤ n then cA zs j else 0) sv
  own : wr.ownsRow w1.heap.size 3 1 sv (plc zs (n - 1) + cnt (zs.take i) n) (ivs (st zs (n - 1) ++ sa zs n i))
  kp : Kp 47 w.heap.size w1 wr
theorem cnt_hit (zs : List Int) (n i : Nat) (hn : 0 < n) (hi : i < zs.length) (h : zs.getD i 0 = (n : Int)) : cnt (zs.take (i + 1)) n = cnt (zs.take i) n + 1 := by
  rw [take_snocI zs i hi]
  have := cnt_snoc (zs.take i) (zs.getD i 0) (by omega) n
  rw [if_pos (by omega)] at this
  omega
theorem Cst.many {zs : List Int} {w w1 wr : World} {n i : Nat} {sv : Value} (h : Cst zs w w1 wr n i sv) (hn : 0 < n) (h15 : n ≤ 15) (hz : w.heap.size + 1 < w1.heap.size) (hi : i < zs.length) (hh : zs.getD i 0 = (n : Int)) (hc : 0 < cnt (zs.take i) n) :
    Csa zs w w1 (wr.setCell ⟨w.heap.size + 1, 16 + n, none⟩ (.int .i64 ((cnt (zs.take i) n + 1 : Nat) : Int))) n i sv := by
  have e := cnt_hit zs n i hn hi hh
  refine ⟨h.res.other (by simp) _, (h.cod.setm n (by omega) _).congr (fun j _ => ?_) (fun j _ => ?_) (fun j _ => rfl), ownsRow_setCell_below h.own (a := ⟨w.heap.size + 1, 16 + n, none⟩) (by exact hz) _, h.kp.setX h.cod (by omega) rfl _⟩
  · rw [if_pos hc, if_pos (show 0 < cnt (zs.take (i + 1)) n by omega)]
  · by_cases e2 : j = n
    · subst e2
      rw [if_pos rfl, if_neg (by omega), if_pos rfl, e]
    · rw [if_neg e2, if_neg e2, if_neg e2]
theorem Cst.first {zs : List Int} {w w1 wr : World} {n i : Nat} {sv : Value} (h : Cst zs w w1 wr n i sv) (hn : 0 < n) (h15 : n ≤ 15) (hz : w.heap.size + 1 < w1.heap.size) (hi : i < zs.length) (hh : zs.getD i 0 = (n : Int)) (hc : cnt (zs.take i) n = 0) :
    Csa zs w w1 ((wr.setCell ⟨w.heap.size + 1, n, none⟩ (.int .i64 (fst zs n : Int))).setCell ⟨w.heap.size + 1, 16 + n, none⟩ (.int .i64 1)) n i sv := by
  have e := cnt_hit zs n i hn hi hh
  have c1 := h.cod.setf n (by omega) (fst zs n : Int)
  refine ⟨(h.res.other (by simp) _).other (by simp) _, (c1.setm n (by omega) _).congr (fun j _ => ?_) (fun j _ => ?_) (fun j _ => rfl), ownsRow_setCell_below (ownsRow_setCell_below h.own (a := ⟨w.heap.size + 1, n, none⟩) (by exact hz) _) (a := ⟨w.heap.size + 1, 16 + n, none⟩) (by exact hz) _, (h.kp.setX h.cod (by omega) rfl _).setX c1 (by omega) rfl _⟩
  · by_cases e2 : j = n
    · subst e2
      rw [if_pos rfl, if_neg (by omega), if_pos rfl, if_pos (by omega)]
    · rw [if_neg e2, if_neg e2, if_neg e2]
  · by_cases e2 : j = n
    · subst e2
      rw [if_pos rfl, if_neg (by omega), if_pos rfl, e, hc]
      rfl
    · rw [if_neg e2, if_neg e2, if_neg e2]
theorem Csa.lay {zs : List Int} {w w1 wr w5 : World} {n i : Nat} {sv sv' : Value} (h : Csa zs w w1 wr n i sv) (hn : 0 < n) (hz : w.heap.size + 1 < w1.heap.size) (hi : i < zs.length) (hh : zs.getD i 0 = (n : Int)) {o : Obj}
    (hg : (wr.alloc o).grownBy w5 sv.ownBlock) (ho : w5.ownsRow w1.heap.size 3 1 sv' (plc zs (n - 1) + cnt (zs.take i) n + 1) (ivs (st zs (n - 1) ++ sa zs n i) ++ [.int .i64 (i : Int)])) :
    Cst zs w w1 (w5.setCell ⟨w.heap.size + 1, 48, none⟩ sv') n (i + 1) sv' := by
  have e := cnt_hit zs n i hn hi hh
  have hr : ∀ k, k < w1.heap.size → some k ≠ sv.ownBlock := fun k hk he => by
    have := (h.own.lt k he.symm).1
    omega
  have hB := h.kp.size
  have oal : (wr.alloc o).ownsRow w1.heap.size 3 1 sv (plc zs (n - 1) + cnt (zs.take i) n) (ivs (st zs (n - 1) ++ sa zs n i)) := h.own.alloc o
  have c5 := (h.cod.alloc o).grown hg (hr _ hz)
  have k5 := (h.kp.alloc (by omega) o).grownNew hg oal (Nat.le_refl _) (by omega)
  refine ⟨((h.res.alloc o).grown hg (hr _ (by omega))).other (by simp) _, c5.sets sv', ?_, k5.setX c5 (by omega) rfl _⟩
  have o5 := ownsRow_setCell_below ho (a := ⟨w.heap.size + 1, 48, none⟩) (by exact hz) sv'
  rw [e, sa, if_pos hh, ← Nat.add_assoc, ← List.append_assoc]
  rw [show ivs (st zs (n - 1) ++ sa zs n i ++ [(i : Int)]) = ivs (st zs (n - 1) ++ sa zs n i) ++ [.int .i64 (i : Int)] from List.map_append]
  exact o5
end Go.Proofs.YthdmjmnkhlpnnaaDoor
