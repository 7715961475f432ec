/-
  What codes.firstBits answers: for each length the bits of the first symbol that has it.
-/
import Derived.Test.YthdmjmnkhlpnnaaDoorReads
import Derived.Deep.QuietTactic
import Derived.BigQuiet
namespace Go.Proofs.YthdmjmnkhlpnnaaDoor
open Go.RowKit

/-- sixteen numbers as an array's cells -/
def arr (f : Nat → Int) : Array Value := ((List.range 16).map fun j => Value.int .i64 (f j)).toArray
theorem arr_size (f : Nat → Int) : (arr f).size = 16 := by simp [arr]
theorem arr_get (f : Nat → Int) (j : Nat) (h : j < 16) : (arr f)[j]? = some (.int .i64 (f j)) := by simp [arr, h]
theorem arr_congr {f g : Nat → Int} (h : ∀ j, j < 16 → f j = g j) : arr f = arr g := by
  unfold arr
  congr 1
  apply List.map_congr_left
  intro j hj
  rw [h j (by simpa using hj)]
theorem arr_one (f : Nat → Int) : (arr f).all (·.oneCell') = true := by
  rw [Array.all_eq_true_iff_forall_mem]
  intro v hv
  simp [arr] at hv
  obtain ⟨j, _, rfl⟩ := hv
  rfl
theorem arr_zero : #[Value.int IntKind.i64 0, Value.int IntKind.i64 0, Value.int IntKind.i64 0, Value.int IntKind.i64 0, Value.int IntKind.i64 0, Value.int IntKind.i64 0, Value.int IntKind.i64 0, Value.int IntKind.i64 0, Value.int IntKind.i64 0, Value.int IntKind.i64 0, Value.int IntKind.i64 0, Value.int IntKind.i64 0, Value.int IntKind.i64 0, Value.int IntKind.i64 0, Value.int IntKind.i64 0, Value.int IntKind.i64 0] = arr fun _ => 0 := by rfl
theorem arr_set (f : Nat → Int) (j : Nat) (v : Int) : (arr f).setIfInBounds j (.int .i64 v) = arr fun i => if i = j then v else f i := by
  apply Array.ext_getElem?
  intro i
  rw [Array.getElem?_setIfInBounds, arr_size]
  by_cases hi : i < 16
  · rw [arr_get (fun i => if i = j then v else f i) i hi]
    by_cases hj : j = i
    · subst hj; simp [hi]
    · rw [if_neg hj, arr_get f i hi, if_neg (by omega)]
  · have h1 : (arr f)[i]? = none := by rw [Array.getElem?_eq_none]; rw [arr_size]; omega
    have h2 : (arr fun i => if i = j then v else f i)[i]? = none := by rw [Array.getElem?_eq_none]; rw [arr_size]; omega
    rw [h1, h2]
    split
    · rw [if_neg (by omega)]
    · rfl

/-- block b is an array of sixteen numbers -/
def Arr (w : World) (b : Nat) (f : Nat → Int) : Prop := w.heap[b]? = some (.cells (arr f) 44 (0, 0))
theorem Arr.cell {w : World} {b : Nat} {f : Nat → Int} (h : Arr w b f) {j : Nat} (hj : j < 16) : w.cell? ⟨b, j, none⟩ = some (.int .i64 (f j)) := by
  rw [cell_of_row w b j (arr f) 44 (0, 0) h, arr_get f j hj]
theorem Arr.free {w : World} {b : Nat} {f : Nat → Int} (h : Arr w b f) (j : Nat) : w.frozen? ⟨b, j, none⟩ = false := by
  have h' : w.heap[b]? = some (.cells (arr f) 44 (0, 0)) := h
  simp [World.frozen?, h']
theorem Arr.set {w : World} {b : Nat} {f : Nat → Int} (h : Arr w b f) (j : Nat) (v : Int) : Arr (w.setCell ⟨b, j, none⟩ (.int .i64 v)) b fun i => if i = j then v else f i := by
  unfold Arr
  rw [setCell_eq_setRow w b j (arr f) 44 (0, 0) _ h, arr_set]
  exact setRow_heap w b (arr f) _ 44 _ h
theorem Arr.other {w : World} {b : Nat} {f : Nat → Int} (h : Arr w b f) {a : Addr} (hb : b ≠ a.block) (v : Value) : Arr (w.setCell a v) b f := by
  unfold Arr
  rw [Below.heap_setCell w a v b hb]
  exact h
theorem Arr.congr {w : World} {b : Nat} {f g : Nat → Int} (h : Arr w b f) (e : ∀ j, j < 16 → f j = g j) : Arr w b g := by
  unfold Arr
  rw [← arr_congr e]
  exact h

/-- how many symbols have a length -/
def cnt (l : List Int) (j : Nat) : Nat := if j = 0 then 0 else l.count (j : Int)
theorem cnt_le (l : List Int) (j : Nat) : cnt l j ≤ l.length := by
  unfold cnt
  split
  · omega
  · exact List.count_le_length
theorem cnt_snoc (l : List Int) (z : Int) (hz : 0 < z) (j : Nat) : ((cnt (l ++ [z]) j : Nat) : Int) = if j = z.toNat then (cnt l j : Int) + 1 else cnt l j := by
  unfold cnt
  by_cases h0 : j = 0
  · subst h0; simp only [if_true]; rw [if_neg (by omega)]
  · simp only [h0, if_false, List.count_append, List.count_singleton]
    by_cases hj : j = z.toNat
    · have hz' : z = (j : Int) := by omega
      subst hz'; simp
    · have : ¬ z = (j : Int) := by omega
      simp [hj, this]
theorem cnt_skip (l : List Int) (z : Int) (hz : z ≤ 0) (j : Nat) : cnt (l ++ [z]) j = cnt l j := by
  unfold cnt
  by_cases h0 : j = 0
  · simp [h0]
  · have : ¬ z = (j : Int) := by omega
    simp [h0, List.count_append, this]
/-- the bits of the first symbol of a length -/
def fst (l : List Int) : Nat → Nat
  | 0 => 0
  | j + 1 => 2 * (fst l j + cnt l j)
theorem fst_le (l : List Int) (h : l.length ≤ 320) (j : Nat) : fst l j + 640 ≤ 640 * 2 ^ j := by
  induction j with
  | zero => simp [fst]
  | succ j ih => have := cnt_le l j; simp only [fst, Nat.pow_succ]; omega
theorem fst_le' (l : List Int) (h : l.length ≤ 320) (j : Nat) (hj : j ≤ 15) : fst l j ≤ 20971520 := by
  have h1 := fst_le l h j
  have h2 : 2 ^ j ≤ 2 ^ 15 := Nat.pow_le_pow_right (by omega) hj
  omega

theorem Seg.below {w w' : World} {ao : Option Addr} {zs : List Int} (h : Seg w ao zs) (hb : Below w.heap.size w w') : Seg w' ao zs := by
  intro h0
  obtain ⟨b, off, e, hc⟩ := h h0
  refine ⟨b, off, e, fun j hj => ?_⟩
  have hbl : b < w.heap.size := World.block_lt_of_cell? w _ (hc j hj)
  exact (hb.cell (p := ⟨b, off + j, none⟩) hbl).trans (hc j hj)
theorem start2 (w : World) (z : Array Value) (hz : z = arr fun _ => 0) :
    Arr ((w.alloc (.cells z 44)).alloc (.cells z 44)) (w.heap.size + 1) (fun _ => 0) ∧ Arr ((w.alloc (.cells z 44)).alloc (.cells z 44)) w.heap.size (fun _ => 0) ∧
    Below w.heap.size w ((w.alloc (.cells z 44)).alloc (.cells z 44)) := by
  subst hz
  have s1 : ∀ (u : World) (o : Obj), (u.alloc o).heap.size = u.heap.size + 1 := fun u o => by simp
  refine ⟨?_, ?_, (((Below.refl _ _).alloc (Nat.le_refl _) _).alloc (by simp) _)⟩
  · unfold Arr
    have := heap_alloc_new (w.alloc (.cells (arr fun _ => 0) 44)) (.cells (arr fun _ => 0) 44)
    rw [s1] at this
    exact this
  · unfold Arr
    rw [Below.heap_alloc _ _ _ (by rw [s1]; omega)]
    exact heap_alloc_new w _

theorem info43 : (Tryd.prog.info? 44).map (·.size) = some 16 := by kernel_rfl
theorem info43' (f : Nat → Int) : (Tryd.prog.info? 44).map (·.size) = some (arr f).size := by rw [arr_size]; exact info43
theorem below_row {B : Nat} {a w : World} (h : Below B a w) {g : Nat} (hg : B ≤ g) (cs : Array Value) : Below B a (w.setRow g cs) :=
  h.trans ⟨rfl, rfl, rfl, by simp, fun k hk => setRow_other _ _ _ _ (by omega)⟩
theorem Arr.row {w : World} {b : Nat} {f : Nat → Int} (h : Arr w b f) (g : Nat → Int) : (w.setRow b (arr g)).heap[b]? = some (.cells (arr g) 44 (0, 0)) :=
  setRow_heap w b (arr f) _ 44 _ h

theorem Arr.keep {w w1 : World} {b B : Nat} {f : Nat → Int} (h : Arr w b f) (hb : Below B w w1) (hl : b < B) : Arr w1 b f := by
  unfold Arr
  exact (hb.block b hl).trans h

set_option maxHeartbeats 800000 in
/-- codes.perLength -/
theorem per_any (ao : Option Addr) (c : Nat) (zs : List Int) (w : World) (hs : Seg w ao zs) (hm : zs.length ≤ 320) (hok : zs.any nl = false) :
    Calls Tryd.prog 102 #[.slice ao zs.length c] w fun e w' => e = .returned (.agg (arr fun j => cnt zs j)) ∧ Below w.heap.size w w' := by
  have HOK : Hid (zs.any nl = false) := hok
  clear hok
  go_enter Tryd.func102, Tryd.ntmps102
  go_wp2
  go_loopw [8] (fun i wr => ∃ k : Nat, k ≤ zs.length ∧ i = .int .i64 k ∧ Arr wr (w.heap.size + 1) (fun j => cnt (zs.take k) j) ∧ Arr wr w.heap.size (fun _ => 0) ∧ Below w.heap.size w wr) (fun i _ => zs.length - (intOf i).toNat)
  case atStart =>
    have H := start2 w _ arr_zero
    exact ⟨0, by omega, rfl, H.1.congr (fun j _ => by simp [cnt]), H.2.1, H.2.2⟩
  case round =>
    obtain ⟨k, hk, rfl, hA1, hA0, hB⟩ := hrel
    by_cases hlt : k < zs.length
    · obtain ⟨b, off, rfl, hc⟩ := hs (by omega)
      obtain ⟨z, hz⟩ : ∃ z, z = zs.getD k 0 := ⟨_, rfl⟩
      have hcw : w.cell? ⟨b, off + k, none⟩ = some (.int .i64 z) := by rw [hz]; exact hc k hlt
      have hbl : b < w.heap.size := World.block_lt_of_cell? w _ hcw
      have hcell : wr.cell? ⟨b, off + k, none⟩ = some (.int .i64 z) := (hB.cell (p := ⟨b, off + k, none⟩) hbl).trans hcw
      have hzb := ok_getD HOK.out k
      rw [← hz] at hzb
      have HZ : Hid (z = zs.getD k 0) := hz
      clear hz hc hs hcw
      by_cases hp : 0 < z
      · obtain ⟨y, hy⟩ : ∃ y : Nat, y = cnt (zs.take k) z.toNat := ⟨_, rfl⟩
        have hyb : y ≤ 320 := by rw [hy]; have := cnt_le (zs.take k) z.toNat; simp at this; omega
        have hcy : wr.cell? ⟨w.heap.size + 1, z.toNat, none⟩ = some (.int .i64 y) := by rw [hy]; exact hA1.cell (by omega)
        have hfr : wr.frozen? ⟨w.heap.size + 1, z.toNat, none⟩ = false := hA1.free _
        have HY : Hid (y = cnt (zs.take k) z.toNat) := hy
        clear hy
        go_wp2
        go_roundw
        case rel =>
          refine ⟨k + 1, by omega, by go_num, (hA1.set _ _).congr (fun j _ => ?_), hA0.other (by simp) _, hB.setCell (by simp) _⟩
          rw [take_snocI zs k hlt, ← HZ.out, cnt_snoc _ z hp, HY.out]
          by_cases hj : j = z.toNat
          · simp [hj]
          · simp [hj]
        case measure => simp [intOf]; omega
      · go_wp2
        go_roundw
        case rel =>
          refine ⟨k + 1, by omega, by go_num, hA1.congr (fun j _ => ?_), hA0, hB⟩
          rw [take_snocI zs k hlt, ← HZ.out, cnt_skip _ z (by omega)]
        case measure => simp [intOf]; omega
    · rw [List.take_of_length_le (by omega)] at hA1
      clear hs
      go_wp2_with (first | (refine wpList_load_row rfl 44 _ rfl (w.heap.size + 1) rfl 44 (arr fun j => (cnt zs j : Int)) (0, 0) _ (by exact hA1) Tryd.underlying44 rfl (info43' _) ?_) | (refine wpList_store_row rfl 44 _ _ rfl w.heap.size (arr fun j => (cnt zs j : Int)) rfl rfl 44 _ (by exact hA0) (info43' _) (by rw [arr_size, arr_size]) (arr_one _) ?_))
      exact bodyPost_ret (v := .agg (arr fun j => (cnt zs j : Int))) (results_cell_row Tryd.results102 _ _ w.heap.size 44 _ (0, 0) _ (by rfl) (hA0.row _) Tryd.underlying44 rfl (info43' _)) rfl ⟨rfl, below_row hB (Nat.le_refl _) _⟩

end Go.Proofs.YthdmjmnkhlpnnaaDoor
