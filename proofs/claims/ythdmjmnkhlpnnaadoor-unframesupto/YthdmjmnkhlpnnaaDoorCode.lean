/-
  A code in the program's memory: what codes.New makes.
-/
import Derived.Test.YthdmjmnkhlpnnaaDoorSy
import Derived.Test.YthdmjmnkhlpnnaaDoorAdd
namespace Go.Proofs.YthdmjmnkhlpnnaaDoor
open Go.RowKit

/-- the cells of a code: its weight, how many have each length, its symbols -/
def cdc (n : Int) (f : Nat → Int) (sv : Value) : Array Value := #[.int .i64 n] ++ arr f ++ #[sv]
theorem cdc_built (n : Int) (f : Nat → Int) : Tryd.prog.built 150 [(0, .int .i64 n), (1, .agg (arr f))] = some (cdc n f (.slice none 0 0)) := by kernel_rfl
theorem wpList_built2 {P : Program} {ops : Array Oper} {rest : List Oper} {o : Oper} {a : Act} {w : World} {Q : Exit → Act → World → Prop} (hg : o.guard = none) (t : TypeId) (i j : Nat) (x y : Operand) (ho : o.op = .build t #[(i, x), (j, y)])
    (vx vy : Value) (hx : a.eval x = vx) (hy : a.eval y = vy) (cells : Array Value) (hc : P.built t [(i, vx), (j, vy)] = some cells)
    (h : wpList P ops Q rest (a.put o.dst (.agg cells)) w) : wpList P ops Q (o :: rest) a w := by
  have e : (#[(i, x), (j, y)].map fun (i, x) => (i, a.eval x)).toList = [(i, vx), (j, vy)] := by simp [hx, hy]
  exact wpList_build hg t _ ho (by rw [e, hc]; rfl) (by rw [e, hc]; exact h)
theorem cdc_size (n : Int) (f : Nat → Int) (sv : Value) : (cdc n f sv).size = 18 := by simp [cdc, arr_size]
theorem cdc_per (n : Int) (f : Nat → Int) (sv : Value) (j : Nat) (h : j < 16) : (cdc n f sv)[1 + j]? = some (.int .i64 (f j)) := by
  unfold cdc
  rw [Array.getElem?_append_left (by simp [arr_size]; omega), Array.getElem?_append_right (by simp)]
  simp only [List.size_toArray, List.length_cons, List.length_nil, Nat.zero_add, Nat.add_sub_cancel_left]
  exact arr_get f j h
theorem cdc_wt (n : Int) (f : Nat → Int) (sv : Value) : (cdc n f sv)[0]? = some (.int .i64 n) := by
  unfold cdc
  rw [Array.getElem?_append_left (by simp [arr_size]), Array.getElem?_append_left (by simp)]
  rfl
theorem cdc_sym (n : Int) (f : Nat → Int) (sv : Value) : (cdc n f sv)[17]? = some sv := by
  unfold cdc
  rw [Array.getElem?_append_right (by simp [arr_size])]
  simp [arr_size]
theorem cdc_set (n : Int) (f : Nat → Int) (sv sw : Value) : (cdc n f sv).setIfInBounds 17 sw = cdc n f sw := by
  apply Array.ext_getElem?
  intro i
  rw [Array.getElem?_setIfInBounds]
  by_cases h : 17 = i
  · subst h; rw [if_pos rfl, if_pos (by rw [cdc_size]; omega), cdc_sym]
  · rw [if_neg h]
    unfold cdc
    by_cases h2 : i < 17
    · rw [Array.getElem?_append_left (xs := #[Value.int .i64 n] ++ arr f) (ys := #[sv]) (by simp [arr_size]; omega), Array.getElem?_append_left (xs := #[Value.int .i64 n] ++ arr f) (ys := #[sw]) (by simp [arr_size]; omega)]
    · rw [Array.getElem?_eq_none (by simp [arr_size]; omega), Array.getElem?_eq_none (by simp [arr_size]; omega)]

theorem cnt_take_le (zs : List Int) (n k m : Nat) (hn : 0 < n) (h : k ≤ m) (hm : m ≤ zs.length) : cnt (zs.take k) n ≤ cnt (zs.take m) n := by
  obtain ⟨r, hr⟩ := sa_prefix zs n k m h
  rw [← sa_length zs n k hn (by omega), ← sa_length zs n m hn hm, hr]
  simp
theorem cnt_take_lt (zs : List Int) (k : Nat) (hk : k < zs.length) (hz : 0 < zs.getD k 0) : cnt (zs.take k) (zs.getD k 0).toNat < cnt zs (zs.getD k 0).toNat := by
  have h1 := cnt_take_le zs (zs.getD k 0).toNat (k + 1) zs.length (by omega) (by omega) (Nat.le_refl _)
  rw [List.take_of_length_le (Nat.le_refl _), take_snocI zs k hk] at h1
  have h2 := cnt_snoc (zs.take k) (zs.getD k 0) hz (zs.getD k 0).toNat
  rw [if_pos rfl] at h2
  omega
theorem plc_pred (zs : List Int) (n : Nat) (hn : 0 < n) : plc zs (n - 1) + cnt zs n = plc zs n := by
  obtain ⟨m, rfl⟩ : ∃ m, n = m + 1 := ⟨n - 1, by omega⟩
  rfl
theorem plc_lt (zs : List Int) (n i : Nat) (hn : 0 < n) (h15 : n ≤ 15) (hi : i < cnt zs n) : plc zs (n - 1) + i < plc zs 15 := by
  have h1 := plc_pred zs n hn
  have h2 := plc_mono zs h15
  omega
theorem plc_inj (zs : List Int) (n m i j : Nat) (hn : 0 < n) (hm : 0 < m) (hi : i < cnt zs n) (hj : j < cnt zs m) (h : plc zs (n - 1) + i = plc zs (m - 1) + j) : n = m ∧ i = j := by
  have h1 := plc_pred zs n hn
  have h2 := plc_pred zs m hm
  rcases Nat.lt_trichotomy n m with h3 | h3 | h3
  · have := plc_mono zs (show n ≤ m - 1 by omega); omega
  · subst h3; exact ⟨rfl, by omega⟩
  · have := plc_mono zs (show m ≤ n - 1 by omega); omega

/-- the symbols that have been laid so far -/
def Sorted (zs : List Int) (k : Nat) (R : List Int) : Prop := R.length = plc zs 15 ∧ ∀ n i, 0 < n → n ≤ 15 → i < cnt (zs.take k) n → R.getD (plc zs (n - 1) + i) 0 = sy zs n i
theorem Sorted.skip {zs : List Int} {k : Nat} {R : List Int} (h : Sorted zs k R) (hk : k < zs.length) (hz : ¬ 0 < zs.getD k 0) : Sorted zs (k + 1) R := by
  refine ⟨h.1, fun n i hn h15 hi => h.2 n i hn h15 ?_⟩
  rw [take_snocI zs k hk, cnt_skip _ _ (by omega)] at hi
  exact hi
theorem Sorted.set {zs : List Int} {k : Nat} {R : List Int} (h : Sorted zs k R) (hk : k < zs.length) (hz : 0 < zs.getD k 0) (h15 : zs.getD k 0 ≤ 15) :
    Sorted zs (k + 1) (R.set (plc zs ((zs.getD k 0).toNat - 1) + cnt (zs.take k) (zs.getD k 0).toNat) k) := by
  have hlt := cnt_take_lt zs k hk hz
  refine ⟨by simp [h.1], fun n i hn hn15 hi => ?_⟩
  rw [List.getD_eq_getElem?_getD, List.getElem?_set]
  by_cases he : plc zs ((zs.getD k 0).toNat - 1) + cnt (zs.take k) (zs.getD k 0).toNat = plc zs (n - 1) + i
  · rw [if_pos he, if_pos (by rw [h.1]; exact plc_lt zs _ _ (by omega) (by omega) hlt)]
    have hin : i < cnt zs n := by
      have := cnt_take_le zs n (k + 1) zs.length hn (by omega) (Nat.le_refl _)
      rw [List.take_of_length_le (Nat.le_refl _)] at this
      omega
    obtain ⟨e1, e2⟩ := plc_inj zs _ _ _ _ (by omega) hn hlt hin he
    subst e1
    rw [← e2, sy_at zs _ k hk (by omega) (by omega)]
    rfl
  · rw [if_neg he, ← List.getD_eq_getElem?_getD]
    refine h.2 n i hn hn15 ?_
    rw [take_snocI zs k hk] at hi
    have e := cnt_snoc (zs.take k) (zs.getD k 0) hz n
    by_cases hn2 : n = (zs.getD k 0).toNat
    · rw [if_pos hn2] at e
      subst hn2
      have : i ≠ cnt (zs.take k) (zs.getD k 0).toNat := fun e => he (by rw [e])
      omega
    · rw [if_neg hn2] at e
      omega

theorem Arr.lt {w : World} {b : Nat} {f : Nat → Int} (h : Arr w b f) : b < w.heap.size := (Array.getElem?_eq_some_iff.1 h).1
/-- a code lies in block b -/
def Cod (w : World) (b : Nat) (zs : List Int) : Prop := ∃ g R, w.heap[b]? = some (.cells (cdc (wt zs) (fun j => cnt zs j) (.slice (some ⟨g, 0, none⟩) (plc zs 15) (plc zs 15))) 150 (0, 0)) ∧ Row w g R ∧ Sorted zs zs.length R

theorem cdc_cell {w : World} {b : Nat} {n : Int} {f : Nat → Int} {sv : Value} (h : w.heap[b]? = some (.cells (cdc n f sv) 150 (0, 0))) :
    w.cell? ⟨b, 0, none⟩ = some (.int .i64 n) ∧ (∀ j, j < 16 → w.cell? ⟨b, 1 + j, none⟩ = some (.int .i64 (f j))) ∧ w.cell? ⟨b, 17, none⟩ = some sv ∧ ∀ j, w.frozen? ⟨b, j, none⟩ = false := by
  refine ⟨?_, fun j hj => ?_, ?_, fun j => by simp [World.frozen?, h]⟩
  · rw [cell_of_row w b 0 _ 150 (0, 0) h]; exact cdc_wt _ _ _
  · rw [cell_of_row w b (1 + j) _ 150 (0, 0) h]; exact cdc_per _ _ _ _ hj
  · rw [cell_of_row w b 17 _ 150 (0, 0) h]; exact cdc_sym _ _ _
theorem start_new (w1 : World) (cs z : Array Value) (hz : z = arr fun _ => 0) :
    ((w1.alloc (.cells cs 150)).alloc (.cells z 44)).heap[w1.heap.size]? = some (.cells cs 150 (0, 0)) ∧ Arr ((w1.alloc (.cells cs 150)).alloc (.cells z 44)) (w1.heap.size + 1) (fun _ => 0) ∧ Below w1.heap.size w1 ((w1.alloc (.cells cs 150)).alloc (.cells z 44)) := by
  subst hz
  refine ⟨?_, ?_, (((Below.refl _ _).alloc (Nat.le_refl _) _).alloc (by simp) _)⟩
  · rw [Below.heap_alloc _ _ _ (by simp)]
    exact heap_alloc_new w1 _
  · unfold Arr
    have := heap_alloc_new (w1.alloc (.cells cs 150)) (.cells (arr fun _ => 0) 44)
    simpa using this

theorem start_syms {w1 wr : World} {n : Int} {f f' : Nat → Int} {sv0 sv : Value} {N : Nat} (hC : wr.heap[w1.heap.size]? = some (.cells (cdc n f sv0) 150 (0, 0))) (hA : Arr wr (w1.heap.size + 1) f') (hB : Below w1.heap.size w1 wr) :
    (((wr.setCell ⟨w1.heap.size, 17, none⟩ sv).alloc (.cells (nums (List.replicate N 0)) 3)).drew).heap[w1.heap.size]? = some (.cells (cdc n f sv) 150 (0, 0)) ∧
    Arr (((wr.setCell ⟨w1.heap.size, 17, none⟩ sv).alloc (.cells (nums (List.replicate N 0)) 3)).drew) (w1.heap.size + 1) f' ∧
    Row (((wr.setCell ⟨w1.heap.size, 17, none⟩ sv).alloc (.cells (nums (List.replicate N 0)) 3)).drew) wr.heap.size (List.replicate N 0) ∧
    Below w1.heap.size w1 (((wr.setCell ⟨w1.heap.size, 17, none⟩ sv).alloc (.cells (nums (List.replicate N 0)) 3)).drew) := by
  have z1 : w1.heap.size + 1 < wr.heap.size := hA.lt
  have zs : (wr.setCell ⟨w1.heap.size, 17, none⟩ sv).heap.size = wr.heap.size := by simp [World.setCell]
  refine ⟨?_, ?_, ?_, ((hB.setCell (by simp) _).alloc (by rw [zs]; omega) _).drew⟩
  · show ((wr.setCell ⟨w1.heap.size, 17, none⟩ sv).alloc _).heap[_]? = _
    rw [Below.heap_alloc _ _ _ (by rw [zs]; omega), blk_set hC, cdc_set]
  · show ((wr.setCell ⟨w1.heap.size, 17, none⟩ sv).alloc _).heap[_]? = _
    rw [Below.heap_alloc _ _ _ (by rw [zs]; omega)]
    exact hA.other (by simp) _
  · show ((wr.setCell ⟨w1.heap.size, 17, none⟩ sv).alloc _).heap[_]? = _
    have := heap_alloc_new (wr.setCell ⟨w1.heap.size, 17, none⟩ sv) (.cells (nums (List.replicate N 0)) 3)
    rw [zs] at this
    exact this
theorem sorted_start (zs : List Int) : Sorted zs 0 (List.replicate (plc zs 15) 0) := ⟨by simp, fun n i hn _ hi => by simp [cnt] at hi⟩

set_option maxRecDepth 20000 in
set_option maxHeartbeats 1600000 in
theorem new_any (ao : Option Addr) (c : Nat) (zs : List Int) (w : World) (hs : Seg w ao zs) (hm : zs.length ≤ 320) (hok : zs.any nl = false) :
    Calls Tryd.prog 75 #[.slice ao zs.length c] w fun e w' => ∃ b, e = .returned (.pointer (some ⟨b, 0, none⟩)) ∧ w.heap.size ≤ b ∧ Cod w' b zs ∧ Below w.heap.size w w' := by
  have HOK : Hid (zs.any nl = false) := hok
  have HS : Hid (Seg w ao zs) := hs
  obtain ⟨i0, hi, hz0, hz1, hz2⟩ := info_parts info3
  have hpl : plc zs 15 ≤ 320 := Nat.le_trans (plc_le zs 15) hm
  obtain ⟨N, hN⟩ : ∃ N, N = plc zs 15 := ⟨_, rfl⟩
  rw [← hN] at hpl
  have HN : Hid (N = plc zs 15) := hN
  have HMK : Hid (∀ u : World, (Instr.makeSlice 45 (.int .i64 (N : Int)) (.int .i64 (N : Int))).run Tryd.prog u =
      .ok (.slice (some ⟨u.heap.size, 0, none⟩) N N) (u.alloc (.cells (nums (List.replicate N 0)) 3))) := fun u => by
    have h := run_make (P := Tryd.prog) u 45 3 i0 (.int .i64 0) Tryd.underlying45 hi hz0 .i64 .i64 (N : Int) (N : Int) (by omega) (Int.le_refl _) (by rw [hz2]; omega) (by omega)
    rw [hz1, Nat.mul_one, show (Value.int IntKind.i64 0).cells = #[Value.int .i64 0] from rfl, show ((N : Int)).toNat = N by omega, nums_made] at h
    exact h
  clear hi hz0 hz1 hz2 hN
  go_enter Tryd.func75, Tryd.ntmps75
  go_wp2_with (first | (go_at_call 101; refine (weight_any _ _ _ _ hs hm hok).mono ?_; rintro e w' ⟨rfl, rfl⟩) | (go_at_call 102; refine (per_any _ _ _ _ hs hm hok).mono ?_; rintro e w1 ⟨rfl, hb1⟩) | (refine wpList_built2 rfl 150 0 1 (.tmp 9) (.tmp 11) rfl (.int .i64 (wt zs)) (.agg (arr fun j => (cnt zs j : Int))) rfl rfl _ (cdc_built _ _) ?_))
  clear hs hok
  have H0 := start_new w1 (cdc (wt zs) (fun j => cnt zs j) (.slice none 0 0)) _ arr_zero
  go_loopw [5] (fun i wr => ∃ k : Nat, 1 ≤ k ∧ k ≤ 15 ∧ i = .int .i64 k ∧ Hid (wr.heap[w1.heap.size]? = some (.cells (cdc (wt zs) (fun j => cnt zs j) (.slice none 0 0)) 150 (0, 0))) ∧ Arr wr (w1.heap.size + 1) (fun j => if j ≤ k then (plc zs (j - 1) : Int) else 0) ∧ Below w1.heap.size w1 wr) (fun i _ => 16 - (intOf i).toNat)
  case atStart =>
    refine ⟨1, by omega, by omega, rfl, H0.1, H0.2.1.congr (fun j hj => ?_), H0.2.2⟩
    by_cases h : j ≤ 1
    · rw [if_pos h, show j - 1 = 0 by omega]; rfl
    · rw [if_neg h]
  case round =>
    clear H0
    obtain ⟨k, hk1, hk, rfl, hC, hA, hB⟩ := hrel
    obtain ⟨-, cp, c17, fc⟩ := cdc_cell hC.out
    by_cases hlt : k < 15
    · obtain ⟨x, hx⟩ : ∃ x : Nat, x = plc zs (k - 1) := ⟨_, rfl⟩
      obtain ⟨y, hy⟩ : ∃ y : Nat, y = cnt zs k := ⟨_, rfl⟩
      have hxb : x ≤ 320 := by rw [hx]; exact Nat.le_trans (plc_le zs _) hm
      have hyb : y ≤ 320 := by rw [hy]; have := cnt_le zs k; omega
      have hcx : wr.cell? ⟨w1.heap.size + 1, k, none⟩ = some (.int .i64 x) := by rw [hA.cell (by omega), if_pos (by omega), hx]
      have hcy : wr.cell? ⟨w1.heap.size, 1 + k, none⟩ = some (.int .i64 y) := by rw [cp k (by omega), hy]
      have hck : wr.cell? ⟨w1.heap.size + 1, k + 1, none⟩ = some (.int .i64 0) := by rw [hA.cell (by omega), if_neg (by omega)]
      have hfr : wr.frozen? ⟨w1.heap.size + 1, k + 1, none⟩ = false := hA.free _
      have HX : Hid (x = plc zs (k - 1)) := hx
      have HY : Hid (y = cnt zs k) := hy
      clear hx hy cp c17 fc
      go_wp2
      go_region
      all_goals go_wp2
      all_goals go_roundw
      case rel =>
        refine ⟨k + 1, by omega, by omega, by go_num, ?_, (hA.set _ _).congr (fun j _ => ?_), (hB.setCell (by simp) _).drew⟩
        · show (World.setCell _ _ _).heap[_]? = _
          rw [Below.heap_setCell _ _ _ _ (by simp)]
          exact hC.out
        · by_cases hj : j = k + 1
          · rw [if_pos hj, if_pos (by omega), hj]
            have h1 := plc_pred zs k (by omega)
            have h2 := HX.out
            have h3 := HY.out
            rw [show k + 1 - 1 = k by omega]
            omega
          · rw [if_neg hj]
            by_cases h2 : j ≤ k
            · rw [if_pos h2, if_pos (by omega)]
            · rw [if_neg h2, if_neg (by omega)]
      case measure => simp [intOf]; omega
    · obtain rfl : k = 15 := by omega
      obtain ⟨x, hx⟩ : ∃ x : Nat, x = plc zs 14 := ⟨_, rfl⟩
      obtain ⟨y, hy⟩ : ∃ y : Nat, y = cnt zs 15 := ⟨_, rfl⟩
      have hxy : x + y = N := by rw [hx, hy, HN.out]; rfl
      have hcx : wr.cell? ⟨w1.heap.size + 1, 15, none⟩ = some (.int .i64 x) := by rw [hA.cell (by omega), if_pos (by omega), hx]
      have hcy : wr.cell? ⟨w1.heap.size, 16, none⟩ = some (.int .i64 y) := by have := cp 15 (by omega); rw [hy]; exact this
      have hfr : wr.frozen? ⟨w1.heap.size, 17, none⟩ = false := fc 17
      have hxb : x + y ≤ 320 := by omega
      have hmk : ∀ u : World, (Instr.makeSlice 45 (.int .i64 ((x : Int) + (y : Int))) (.int .i64 ((x : Int) + (y : Int)))).run Tryd.prog u =
          .ok (.slice (some ⟨u.heap.size, 0, none⟩) N N) (u.alloc (.cells (nums (List.replicate N 0)) 3)) := fun u => by
        rw [show ((x : Int) + (y : Int)) = (N : Int) by omega]; exact HMK.out u
      have z1 : w1.heap.size + 1 < wr.heap.size := hA.lt
      have z0 : w1.heap.size < wr.heap.size := by omega
      have g17 : (wr.alloc (.cells (nums (List.replicate N 0)) 3)).cell? ⟨w1.heap.size, 17, none⟩ = some (.slice none 0 0) := by
        rw [World.cell?_of_block (w := wr) (Below.heap_alloc _ _ _ z0)]; exact c17
      have gfr : (wr.alloc (.cells (nums (List.replicate N 0)) 3)).frozen? ⟨w1.heap.size, 17, none⟩ = false := by
        rw [World.frozen?_of_block (w := wr) (Below.heap_alloc _ _ _ z0)]; exact hfr
      clear hx hy hxy cp fc
      go_wp2
      go_region
      all_goals go_wp2
      have H1 := start_syms (sv := .slice (some ⟨wr.heap.size, 0, none⟩) N N) (N := N) hC.out hA hB
      have hgs : w1.heap.size + 1 < wr.heap.size := z1
      obtain ⟨G, hG⟩ : ∃ G, G = wr.heap.size := ⟨_, rfl⟩
      rw [← hG] at H1 hgs ⊢
      clear hcx hcy hfr hmk z1 z0 g17 gfr hG c17 hC hA hB hk1 hk hlt
      go_loopw [45] (fun i wr => ∃ (k : Nat) (R : List Int), k ≤ zs.length ∧ i = .int .i64 k ∧ Hid (wr.heap[w1.heap.size]? = some (.cells (cdc (wt zs) (fun j => cnt zs j) (.slice (some ⟨G, 0, none⟩) N N)) 150 (0, 0))) ∧ Arr wr (w1.heap.size + 1) (fun j => if j ≤ 15 then ((plc zs (j - 1) + cnt (zs.take k) j : Nat) : Int) else 0) ∧ Row wr G R ∧ Hid (Sorted zs k R) ∧ Below w1.heap.size w1 wr) (fun i _ => zs.length - (intOf i).toNat)
      case atStart =>
        refine ⟨0, List.replicate N 0, by omega, rfl, H1.1, H1.2.1.congr (fun j hj => ?_), H1.2.2.1, ?_, H1.2.2.2⟩
        · rw [if_pos (by omega), if_pos (by omega)]; simp [cnt]
        · rw [HN.out]; exact sorted_start zs
      case round =>
        clear H1
        obtain ⟨k, R, hk, rfl, hC, hA, hR, hS, hB⟩ := hrel
        by_cases hlt : k < zs.length
        · obtain ⟨b, off, rfl, hc⟩ := HS.out (by omega)
          obtain ⟨z, hz⟩ : ∃ z, z = zs.getD k 0 := ⟨_, rfl⟩
          have hcw : w.cell? ⟨b, off + k, none⟩ = some (.int .i64 z) := by rw [hz]; exact hc k hlt
          have hbl : b < w.heap.size := World.block_lt_of_cell? w _ hcw
          have hbl1 : b < w1.heap.size := Nat.lt_of_lt_of_le hbl hb1.size
          have hcell : wr.cell? ⟨b, off + k, none⟩ = some (.int .i64 z) := (hB.cell (p := ⟨b, off + k, none⟩) hbl1).trans ((hb1.cell (p := ⟨b, off + k, none⟩) hbl).trans hcw)
          have hzb := ok_getD HOK.out k
          rw [← hz] at hzb
          have HZ : Hid (z = zs.getD k 0) := hz
          by_cases hp : 0 < z
          · obtain ⟨y, hy⟩ : ∃ y : Nat, y = plc zs (z.toNat - 1) + cnt (zs.take k) z.toNat := ⟨_, rfl⟩
            have hyN : y < N := by
              rw [hy, HN.out, hz]
              exact plc_lt zs _ _ (by omega) (by omega) (cnt_take_lt zs k hlt (by omega))
            have hcy : wr.cell? ⟨w1.heap.size + 1, z.toNat, none⟩ = some (.int .i64 y) := by
              rw [hA.cell (by omega), if_pos (by omega), hy]
            have hfr : wr.frozen? ⟨w1.heap.size + 1, z.toNat, none⟩ = false := hA.free _
            obtain ⟨-, -, c17, -⟩ := cdc_cell hC.out
            have hRl : R.length = N := by rw [HN.out]; exact hS.out.1
            obtain ⟨q, hcr⟩ : ∃ q, wr.cell? ⟨G, y, none⟩ = some (.int .i64 q) := ⟨_, hR.cell (by omega)⟩
            have hfr2 : wr.frozen? ⟨G, y, none⟩ = false := hR.free _
            have HY : Hid (y = plc zs (z.toNat - 1) + cnt (zs.take k) z.toNat) := hy
            clear hy hz hc hcw hRl
            go_wp2
            go_region
            all_goals go_wp2
            all_goals go_roundw
            case rel =>
              refine ⟨k + 1, R.set y k, by omega, by go_num, ?_, ?_, ?_, ?_, ?_⟩
              · show (World.setCell _ _ _).heap[_]? = _
                rw [Below.heap_setCell _ _ _ _ (by simp), Below.heap_setCell _ _ _ _ (by simp; omega)]
                exact hC.out
              · refine ((hA.other (by simp; omega) _).set _ _).congr (fun j _ => ?_)
                rw [take_snocI zs k hlt, ← HZ.out]
                have e := cnt_snoc (zs.take k) z hp j
                by_cases hj : j = z.toNat
                · rw [if_pos hj] at e
                  rw [if_pos hj, if_pos (by omega), HY.out, ← hj]
                  omega
                · rw [if_neg hj] at e
                  rw [if_neg hj]
                  split <;> omega
              · exact (hR.set _ _).other (by simp; omega) _
              · show Sorted _ _ _
                rw [HY.out, HZ.out]
                exact hS.out.set hlt (by rw [← HZ.out]; exact hp) (by rw [← HZ.out]; exact hzb.2)
              · exact ((hB.setCell (by simp; omega) _).setCell (by simp) _).drew
            case measure => simp [intOf]; omega
          · clear hz hc hcw
            go_wp2
            go_roundw
            case rel =>
              refine ⟨k + 1, R, by omega, by go_num, hC, hA.congr (fun j _ => ?_), hR, ?_, hB⟩
              · rw [take_snocI zs k hlt, ← HZ.out, cnt_skip _ z (by omega)]
              · exact hS.out.skip hlt (by rw [← HZ.out]; exact hp)
            case measure => simp [intOf]; omega
        · obtain rfl : k = zs.length := by omega
          go_wp2
          go_ret
          refine ⟨w1.heap.size, rfl, hb1.size, ⟨G, R, ?_, hR, hS.out⟩, hb1.trans (hB.mono hb1.size)⟩
          rw [← HN.out]
          exact hC.out
end Go.Proofs.YthdmjmnkhlpnnaaDoor
