/-
  What codes.Bits and bale.Codes answer: the bits of each symbol in new memory, or why not.
-/
import Derived.Test.YthdmjmnkhlpnnaaDoorFirst
namespace Go.Proofs.YthdmjmnkhlpnnaaDoor
open Go.RowKit

/-- numbers as cells -/
def nums (zs : List Int) : Array Value := (zs.map (Value.int .i64)).toArray
theorem nums_size (zs : List Int) : (nums zs).size = zs.length := by simp [nums]
theorem nums_get (zs : List Int) (j : Nat) (h : j < zs.length) : (nums zs)[j]? = some (.int .i64 (zs.getD j 0)) := by simp [nums, h]
theorem nums_set (zs : List Int) (j : Nat) (v : Int) : (nums zs).setIfInBounds j (.int .i64 v) = nums (zs.set j v) := by
  simp [nums, List.map_set]
theorem nums_made (n : Nat) : madeCells #[Value.int .i64 0] n = nums (List.replicate n 0) := by
  apply Array.ext_getElem?
  intro i
  unfold madeCells nums
  by_cases h : i < n
  · simp [h, Nat.mod_one]
  · simp [h]

/-- block g holds these numbers -/
def Row (w : World) (g : Nat) (zs : List Int) : Prop := w.heap[g]? = some (.cells (nums zs) 3 (0, 0))
theorem Row.cell {w : World} {g : Nat} {zs : List Int} (h : Row w g zs) {j : Nat} (hj : j < zs.length) : w.cell? ⟨g, j, none⟩ = some (.int .i64 (zs.getD j 0)) := by
  rw [cell_of_row w g j (nums zs) 3 (0, 0) h, nums_get zs j hj]
theorem Row.free {w : World} {g : Nat} {zs : List Int} (h : Row w g zs) (j : Nat) : w.frozen? ⟨g, j, none⟩ = false := by
  have h' : w.heap[g]? = some (.cells (nums zs) 3 (0, 0)) := h
  simp [World.frozen?, h']
theorem Row.set {w : World} {g : Nat} {zs : List Int} (h : Row w g zs) (j : Nat) (v : Int) : Row (w.setCell ⟨g, j, none⟩ (.int .i64 v)) g (zs.set j v) := by
  unfold Row
  rw [setCell_eq_setRow w g j (nums zs) 3 (0, 0) _ h, nums_set]
  exact setRow_heap w g (nums zs) _ 3 _ h
theorem Row.other {w : World} {g : Nat} {zs : List Int} (h : Row w g zs) {a : Addr} (hb : g ≠ a.block) (v : Value) : Row (w.setCell a v) g zs := by
  unfold Row
  rw [Below.heap_setCell w a v g hb]
  exact h
theorem Row.seg {w : World} {g : Nat} {zs : List Int} (h : Row w g zs) : Seg w (some ⟨g, 0, none⟩) zs :=
  fun _ => ⟨g, 0, rfl, fun j hj => by rw [Nat.zero_add]; exact h.cell hj⟩
theorem Row.lt {w : World} {g : Nat} {zs : List Int} (h : Row w g zs) : g < w.heap.size := (Array.getElem?_eq_some_iff.1 h).1

/-- the bits of symbol i -/
def bt (zs : List Int) (i : Nat) : Nat := if 0 < zs.getD i 0 then fst zs (zs.getD i 0).toNat + cnt (zs.take i) (zs.getD i 0).toNat else 0
def bts (zs : List Int) : List Int := (List.range zs.length).map fun i => (bt zs i : Int)
theorem bts_length (zs : List Int) : (bts zs).length = zs.length := by simp [bts]
theorem bts_getD (zs : List Int) (i : Nat) (h : i < zs.length) : (bts zs).getD i 0 = bt zs i := by simp [bts, h]
theorem info3 : (Tryd.prog.info? 3).map (fun i => (i.zero, i.size, i.bytes)) = some (some (.int .i64 0), 1, 8) := by kernel_rfl
end Go.Proofs.YthdmjmnkhlpnnaaDoor
