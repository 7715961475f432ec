/-
  What codes.Bits and bale.Codes answer: the bits of each symbol in new memory, or why not.
-/
import Derived.Test.YthdmjmnkhlpnnaaFirst
namespace Go.Proofs.Ythdmjmnkhlpnnaa
open Go.RowKit

/-- numbers as cells -/
def nums (zs : List Int) : Array Value := (zs.map (Value.int .i64)).toArray
theorem nums_size (zs : List Int) : (nums zs).size = zs.length := by simp [nums]
theorem nums_get (zs : List Int) (j : Nat) (h : j < zs.length) : (nums zs)[j]? = some (.int .i64 (zs.getD j 0)) := by simp [nums, h]
theorem nums_set (zs : List Int) (j : Nat) (v : Int) : (nums zs).setIfInBounds j (.int .i64 v) = nums (zs.set j v) := by
  simp [nums, List.map_set]
theorem nums_made (n : Nat) : madeCells #[Value.int .i64 0] n = nums (List.replicate n 0) := by
  apply Array.ext_getElem?
  intro i
  unfold madeCells nums
  by_cases h : i < n
  · simp [h, Nat.mod_one]
  · simp [h]

/-- block g holds these numbers -/
def Row (w : World) (g : Nat) (zs : List Int) : Prop := w.heap[g]? = some (.cells (nums zs) 3 (0, 0))
theorem Row.cell {w : World} {g : Nat} {zs : List Int} (h : Row w g zs) {j : Nat} (hj : j < zs.length) : w.cell? ⟨g, j, none⟩ = some (.int .i64 (zs.getD j 0)) := by
  rw [cell_of_row w g j (nums zs) 3 (0, 0) h, nums_get zs j hj]
theorem Row.free {w : World} {g : Nat} {zs : List Int} (h : Row w g zs) (j : Nat) : w.frozen? ⟨g, j, none⟩ = false := by
  have h' : w.heap[g]? = some (.cells (nums zs) 3 (0, 0)) := h
  simp [World.frozen?, h']
theorem Row.set {w : World} {g : Nat} {zs : List Int} (h : Row w g zs) (j : Nat) (v : Int) : Row (w.setCell ⟨g, j, none⟩ (.int .i64 v)) g (zs.set j v) := by
  unfold Row
  rw [setCell_eq_setRow w g j (nums zs) 3 (0, 0) _ h, nums_set]
  exact setRow_heap w g (nums zs) _ 3 _ h
theorem Row.other {w : World} {g : Nat} {zs : List Int} (h : Row w g zs) {a : Addr} (hb : g ≠ a.block) (v : Value) : Row (w.setCell a v) g zs := by
  unfold Row
  rw [Below.heap_setCell w a v g hb]
  exact h
theorem Row.seg {w : World} {g : Nat} {zs : List Int} (h : Row w g zs) : Seg w (some ⟨g, 0, none⟩) zs :=
  fun _ => ⟨g, 0, rfl, fun j hj => by rw [Nat.zero_add]; exact h.cell hj⟩
theorem Row.lt {w : World} {g : Nat} {zs : List Int} (h : Row w g zs) : g < w.heap.size := (Array.getElem?_eq_some_iff.1 h).1

/-- the bits of symbol i -/
def bt (zs : List Int) (i : Nat) : Nat := if 0 < zs.getD i 0 then fst zs (zs.getD i 0).toNat + cnt (zs.take i) (zs.getD i 0).toNat else 0
def bts (zs : List Int) : List Int := (List.range zs.length).map fun i => (bt zs i : Int)
theorem bts_length (zs : List Int) : (bts zs).length = zs.length := by simp [bts]
theorem bts_getD (zs : List Int) (i : Nat) (h : i < zs.length) : (bts zs).getD i 0 = bt zs i := by simp [bts, h]
/-- what is written so far -/
def sofar (zs : List Int) (k : Nat) : List Int := (bts zs).take k ++ List.replicate (zs.length - k) 0
theorem sofar_zero (zs : List Int) : sofar zs 0 = List.replicate zs.length 0 := by simp [sofar]
theorem sofar_all (zs : List Int) (k : Nat) (h : zs.length ≤ k) : sofar zs k = bts zs := by
  unfold sofar
  rw [List.take_of_length_le (by rw [bts_length]; exact h), show zs.length - k = 0 by omega]
  simp
theorem sofar_length (zs : List Int) (k : Nat) (h : k ≤ zs.length) : (sofar zs k).length = zs.length := by
  simp [sofar, bts_length]; omega
theorem sofar_set (zs : List Int) (k : Nat) (h : k < zs.length) : (sofar zs k).set k (bt zs k) = sofar zs (k + 1) := by
  apply List.ext_getElem?
  intro i
  unfold sofar
  have hl : ((bts zs).take k).length = k := by simp [bts_length]; omega
  have hl' : ((bts zs).take (k + 1)).length = k + 1 := by simp [bts_length]; omega
  rw [List.getElem?_set]
  by_cases h1 : k = i
  · subst h1
    have e : ((bts zs).take (k + 1) ++ List.replicate (zs.length - (k + 1)) 0)[k]? = some (bt zs k : Int) := by
      rw [List.getElem?_append_left (by omega)]
      simp [bts, h]
    rw [e]
    simp [bts_length]
    omega
  · rw [if_neg h1]
    by_cases h2 : i < k
    · rw [List.getElem?_append_left (by omega), List.getElem?_append_left (by omega)]
      simp [h2, show i < k + 1 by omega]
    · rw [List.getElem?_append_right (by omega), List.getElem?_append_right (by omega), hl, hl']
      simp only [List.getElem?_replicate]
      by_cases h3 : i < zs.length
      · rw [if_pos (by omega), if_pos (by omega)]
      · rw [if_neg (by omega), if_neg (by omega)]
theorem sofar_skip (zs : List Int) (k : Nat) (h : k < zs.length) (h0 : bt zs k = 0) : sofar zs k = sofar zs (k + 1) := by
  rw [← sofar_set zs k h, h0]
  apply List.ext_getElem?
  intro i
  rw [List.getElem?_set]
  by_cases h1 : k = i
  · subst h1
    have hl : ((bts zs).take k).length = k := by simp [bts_length]; omega
    have e : (sofar zs k)[k]? = some 0 := by
      unfold sofar
      rw [List.getElem?_append_right (by omega), hl]
      simp only [List.getElem?_replicate]
      rw [if_pos (by omega)]
    rw [e, if_pos rfl, if_pos (by rw [sofar_length zs k (by omega)]; exact h)]
    rfl
  · rw [if_neg h1]

theorem info3 : (Try.prog.info? 3).map (fun i => (i.zero, i.size, i.bytes)) = some (some (.int .i64 0), 1, 8) := by kernel_rfl
theorem start_bits (w : World) (z : Array Value) (f : Nat → Int) (n : Nat) :
    Arr (((w.alloc (.cells z 59)).setRow w.heap.size (arr f)).alloc (.cells (nums (List.replicate n 0)) 3)) w.heap.size f ∧
    Row (((w.alloc (.cells z 59)).setRow w.heap.size (arr f)).alloc (.cells (nums (List.replicate n 0)) 3)) (w.heap.size + 1) (List.replicate n 0) ∧
    Below w.heap.size w (((w.alloc (.cells z 59)).setRow w.heap.size (arr f)).alloc (.cells (nums (List.replicate n 0)) 3)) := by
  refine ⟨?_, ?_, ?_⟩
  · unfold Arr
    rw [Below.heap_alloc _ _ _ (by simp)]
    exact setRow_heap _ _ z _ 59 _ (heap_alloc_new w _)
  · unfold Row
    have := heap_alloc_new ((w.alloc (.cells z 59)).setRow w.heap.size (arr f)) (.cells (nums (List.replicate n 0)) 3)
    simpa using this
  · exact (below_row ((Below.refl _ _).alloc (Nat.le_refl _) _) (Nat.le_refl _) _).alloc (by simp) _

set_option maxHeartbeats 800000 in
/-- a list that may be no code's -/
theorem bits_number (ao : Option Addr) (c : Nat) (zs : List Int) (w : World) (hs : Seg w ao zs) (hm : zs.length ≤ maxLen) (hbad : 320 < zs.length ∨ zs.any nl = true) :
    Calls Try.prog 25 #[.slice ao zs.length c] w fun e w' => e = .returned (.tuple #[.slice none 0 0, .int .i64 9]) ∧ w = w' := by
  by_cases h320 : 320 < zs.length
  · clear hbad
    unfold maxLen at hm
    go_enter Try.func25, Try.ntmps25
    go_wp2
    go_ret2
    exact ⟨rfl, rfl⟩
  · have hany : zs.any nl = true := by rcases hbad with h | h; exact absurd h h320; exact h
    clear hbad
    go_enter Try.func25, Try.ntmps25
    go_wp2_with (go_at_call 30; refine (contains_any _ _ _ _ hs hm).mono ?_; rintro e w' ⟨rfl, rfl⟩)
    go_ret2
    exact ⟨rfl, rfl⟩

set_option maxHeartbeats 800000 in
/-- a weight that is too great -/
theorem bits_code (ao : Option Addr) (c : Nat) (zs : List Int) (w : World) (hs : Seg w ao zs) (hm : zs.length ≤ 320) (hok : zs.any nl = false) (hw : 32768 < wt zs) :
    Calls Try.prog 25 #[.slice ao zs.length c] w fun e w' => e = .returned (.tuple #[.slice none 0 0, .int .i64 3]) ∧ w = w' := by
  go_enter Try.func25, Try.ntmps25
  go_wp2_with (first | (go_at_call 30; refine (contains_any _ _ _ _ hs (by unfold maxLen; omega)).mono ?_; rintro e w' ⟨rfl, rfl⟩) | (go_at_call 35; refine (weight_any _ _ _ _ hs hm hok).mono ?_; rintro e w' ⟨rfl, rfl⟩))
  go_ret2
  exact ⟨rfl, rfl⟩

set_option maxHeartbeats 800000 in
theorem bits_ok (ao : Option Addr) (c : Nat) (zs : List Int) (w : World) (hs : Seg w ao zs) (hm : zs.length ≤ 320) (hok : zs.any nl = false) (hw : wt zs ≤ 32768) :
    Calls Try.prog 25 #[.slice ao zs.length c] w fun e w' => ∃ g, e = .returned (.tuple #[.slice (some ⟨g, 0, none⟩) zs.length zs.length, .int .i64 0]) ∧ w.heap.size ≤ g ∧ Row w' g (bts zs) ∧ Below w.heap.size w w' := by
  obtain ⟨i0, hi, hz0, hz1, hz2⟩ := info_parts info3
  have HOK : Hid (zs.any nl = false) := hok
  have hmk : ∀ u : World, (Instr.makeSlice 27 (.int .i64 (zs.length : Int)) (.int .i64 (zs.length : Int))).run Try.prog u =
      .ok (.slice (some ⟨u.heap.size, 0, none⟩) zs.length zs.length) (u.alloc (.cells (nums (List.replicate zs.length 0)) 3)) := fun u => by
    have h := run_make (P := Try.prog) u 27 3 i0 (.int .i64 0) Try.underlying27 hi hz0 .i64 .i64 (zs.length : Int) (zs.length : Int) (by omega) (Int.le_refl _) (by rw [hz2]; omega) (by omega)
    rw [hz1, Nat.mul_one, show (Value.int IntKind.i64 0).cells = #[Value.int .i64 0] from rfl, show ((zs.length : Int)).toNat = zs.length by omega, nums_made] at h
    exact h
  clear hi hz0 hz1 hz2
  go_enter Try.func25, Try.ntmps25
  go_wp2_with (first | (go_at_call 30; refine (contains_any _ _ _ _ hs (by unfold maxLen; omega)).mono ?_; rintro e w' ⟨rfl, rfl⟩) | (go_at_call 35; refine (weight_any _ _ _ _ hs hm hok).mono ?_; rintro e w' ⟨rfl, rfl⟩) | (go_at_call 36; refine (first_any _ _ _ _ hs hm hok).mono ?_; rintro e w1 ⟨rfl, hb1⟩; clear hok) | (refine wpList_store_row rfl 59 _ _ rfl w1.heap.size (arr fun j => (fst zs j : Int)) rfl rfl 59 _ (heap_alloc_new w1 _) (info59' _) (by rw [arr_size]; rfl) (arr_one _) ?_))
  go_loopw [25] (fun i wr => ∃ k : Nat, k ≤ zs.length ∧ i = .int .i64 k ∧ Arr wr w1.heap.size (fun j => (fst zs j : Int) + cnt (zs.take k) j) ∧ Row wr (w1.heap.size + 1) (sofar zs k) ∧ Below w1.heap.size w1 wr) (fun i _ => zs.length - (intOf i).toNat)
  case atStart =>
    have H := start_bits w1 #[Value.int IntKind.i64 0, Value.int IntKind.i64 0, Value.int IntKind.i64 0, Value.int IntKind.i64 0, Value.int IntKind.i64 0, Value.int IntKind.i64 0, Value.int IntKind.i64 0, Value.int IntKind.i64 0, Value.int IntKind.i64 0, Value.int IntKind.i64 0, Value.int IntKind.i64 0, Value.int IntKind.i64 0, Value.int IntKind.i64 0, Value.int IntKind.i64 0, Value.int IntKind.i64 0, Value.int IntKind.i64 0] (fun j => (fst zs j : Int)) zs.length
    exact ⟨0, by omega, rfl, H.1.congr (fun j _ => by simp [cnt]), by rw [sofar_zero]; exact H.2.1, H.2.2⟩
  case round =>
    obtain ⟨k, hk, rfl, hA, hR, hB⟩ := hrel
    clear hmk
    by_cases hlt : k < zs.length
    · obtain ⟨b, off, rfl, hc⟩ := hs (by omega)
      obtain ⟨z, hz⟩ : ∃ z, z = zs.getD k 0 := ⟨_, rfl⟩
      have hcw : w.cell? ⟨b, off + k, none⟩ = some (.int .i64 z) := by rw [hz]; exact hc k hlt
      have hbl : b < w.heap.size := World.block_lt_of_cell? w _ hcw
      have hbl1 : b < w1.heap.size := Nat.lt_of_lt_of_le hbl hb1.size
      have hcell : wr.cell? ⟨b, off + k, none⟩ = some (.int .i64 z) := (hB.cell (p := ⟨b, off + k, none⟩) hbl1).trans ((hb1.cell (p := ⟨b, off + k, none⟩) hbl).trans hcw)
      have hzb := ok_getD HOK.out k
      rw [← hz] at hzb
      have HZ : Hid (z = zs.getD k 0) := hz
      clear hz hc hs hcw
      by_cases hp : 0 < z
      · obtain ⟨y, hy⟩ : ∃ y : Nat, y = fst zs z.toNat + cnt (zs.take k) z.toNat := ⟨_, rfl⟩
        have hyb : y ≤ 20972000 := by
          rw [hy]
          have h1 := cnt_le (zs.take k) z.toNat
          have h2 := fst_le' zs hm z.toNat (by omega)
          simp at h1
          omega
        have hcy : wr.cell? ⟨w1.heap.size, z.toNat, none⟩ = some (.int .i64 y) := by
          rw [hA.cell (by omega), hy]
          congr 1
        have hfr : wr.frozen? ⟨w1.heap.size, z.toNat, none⟩ = false := hA.free _
        have hcr : ∃ q, wr.cell? ⟨w1.heap.size + 1, k, none⟩ = some (.int .i64 q) := ⟨_, hR.cell (by rw [sofar_length zs k hk]; exact hlt)⟩
        obtain ⟨q, hcr⟩ := hcr
        have hfr2 : wr.frozen? ⟨w1.heap.size + 1, k, none⟩ = false := hR.free _
        have HY : Hid (y = fst zs z.toNat + cnt (zs.take k) z.toNat) := hy
        have HBT : Hid (bt zs k = y) := by show _ = _; unfold bt; rw [← HZ.out, if_pos hp, hy]
        clear hy
        go_wp2
        go_roundw
        case rel =>
          refine ⟨k + 1, by omega, by go_num, ((hA.other (by simp) _).set _ _).congr (fun j _ => ?_), ?_, (hB.setCell (by simp) _).setCell (by simp) _⟩
          · rw [take_snocI zs k hlt, ← HZ.out, cnt_snoc _ z hp, HY.out]
            by_cases hj : j = z.toNat
            · simp [hj]; omega
            · simp [hj]
          · rw [← sofar_set zs k hlt, HBT.out]
            exact (hR.set _ _).other (by simp) _
        case measure => simp [intOf]; omega
      · go_wp2
        go_roundw
        case rel =>
          refine ⟨k + 1, by omega, by go_num, hA.congr (fun j _ => ?_), ?_, hB⟩
          · rw [take_snocI zs k hlt, ← HZ.out, cnt_skip _ z (by omega)]
          · rw [← sofar_skip zs k hlt (by unfold bt; rw [← HZ.out, if_neg hp])]
            exact hR
        case measure => simp [intOf]; omega
    · rw [sofar_all zs k (by omega)] at hR
      go_wp2
      go_ret2
      exact ⟨w1.heap.size + 1, rfl, by have := hb1.size; omega, hR, hb1.trans (hB.mono hb1.size)⟩
end Go.Proofs.Ythdmjmnkhlpnnaa
