/-
  The book of the lists that came out: what lies in memory, and what leaves it so.
-/
import Derived.Test.YthdmjmnkhlpnnaaRef
import Derived.Laws.AppendOwnNone
namespace Go.Proofs.Ythdmjmnkhlpnnaa
open Go.RowKit

/-- a list that is written full with a mark -/
def Mark (w : World) (bk : Nat) (mv gv v : Value) (m : Int) : Prop :=
  v = .slice none 0 0 ∨ ∃ g n c cur, v = .slice (some ⟨g, 0, none⟩) n c ∧ bk < g ∧ mv.ownBlock ≠ some g ∧ gv.ownBlock ≠ some g ∧ n ≤ 400 ∧ w.heap[g]? = some (.cells cur 3 (0, 0)) ∧ ∀ j, j < n → cur[j]? = some (.int .i64 m)

structure Book (w : World) (bk : Nat) (L : List (Value × Int)) (nx : Int) (lv mv gv : Value) (gs : List Int) : Prop where
  blk : w.heap[bk]? = some (.cells #[lv, mv, .int .i64 nx, gv] 29 (0, 0))
  hl : w.ownsRow (bk + 1) 27 1 lv L.length (L.map Prod.fst)
  hm : w.ownsRow (bk + 1) 3 1 mv L.length (L.map fun p => Value.int .i64 p.2)
  hg : w.ownsRow (bk + 1) 3 1 gv gs.length (gs.map (Value.int .i64))
  dist : ∀ k, mv.ownBlock = some k → gv.ownBlock ≠ some k
  marks : ∀ p ∈ L, Mark w bk mv gv p.1 p.2

section
variable {w w' : World} {bk : Nat} {L : List (Value × Int)} {nx : Int} {lv mv gv : Value} {gs : List Int}

theorem Book.lt (h : Book w bk L nx lv mv gv gs) : bk < w.heap.size := (Array.getElem?_eq_some_iff.1 h.blk).1
theorem Book.cell0 (h : Book w bk L nx lv mv gv gs) : w.cell? ⟨bk, 0, none⟩ = some lv := by rw [cell_of_row w bk 0 _ 29 (0, 0) h.blk]; rfl
theorem Book.cell1 (h : Book w bk L nx lv mv gv gs) : w.cell? ⟨bk, 1, none⟩ = some mv := by rw [cell_of_row w bk 1 _ 29 (0, 0) h.blk]; rfl
theorem Book.cell2 (h : Book w bk L nx lv mv gv gs) : w.cell? ⟨bk, 2, none⟩ = some (.int .i64 nx) := by rw [cell_of_row w bk 2 _ 29 (0, 0) h.blk]; rfl
theorem Book.cell3 (h : Book w bk L nx lv mv gv gs) : w.cell? ⟨bk, 3, none⟩ = some gv := by rw [cell_of_row w bk 3 _ 29 (0, 0) h.blk]; rfl
theorem Book.free (h : Book w bk L nx lv mv gv gs) (j : Nat) : w.frozen? ⟨bk, j, none⟩ = false := by
  have h' := h.blk
  simp [World.frozen?, h']

theorem owns_kept {base : Nat} {e : TypeId} {size : Nat} {v : Value} {n : Nat} {xs : List Value} (h : w.ownsRow base e size v n xs) (hk : ∀ k, v.ownBlock = some k → w'.heap[k]? = w.heap[k]?) : w'.ownsRow base e size v n xs := by
  refine ⟨h.1, ?_⟩
  rcases h.2 with hn | ⟨g, cap, cur, rfl, hb, hgg, rest⟩
  · exact .inl hn
  · exact .inr ⟨g, cap, cur, rfl, hb, by rw [hk g rfl]; exact hgg, rest⟩
theorem owns_mono {base base' : Nat} {e : TypeId} {size : Nat} {v : Value} {n : Nat} {xs : List Value} (h : w.ownsRow base e size v n xs) (hb : base' ≤ base) : w.ownsRow base' e size v n xs := by
  refine ⟨h.1, ?_⟩
  rcases h.2 with hn | ⟨g, cap, cur, rfl, hb', rest⟩
  · exact .inl hn
  · exact .inr ⟨g, cap, cur, rfl, by omega, rest⟩
/-- an owned row's element type is its block's -/
theorem owns_type {base : Nat} {e e' : TypeId} {size : Nat} {v : Value} {n : Nat} {xs : List Value} (h : w.ownsRow base e size v n xs) {k : Nat} {cur : Array Value} {fr : Nat × Nat} (hk : w.heap[k]? = some (.cells cur e' fr)) (hne : e ≠ e') : v.ownBlock ≠ some k := by
  intro hv
  rcases h.2 with ⟨rfl, _⟩ | ⟨g, cap, cur', rfl, _, hg, _⟩
  · simp [Value.ownBlock] at hv
  · simp [Value.ownBlock] at hv
    subst hv
    rw [hg] at hk
    injection hk with hk
    injection hk with _ h2 _
    exact hne h2
theorem Mark.kept {v : Value} {m : Int} (h : Mark w bk mv gv v m) (hk : ∀ k, v.ownBlock = some k → w'.heap[k]? = w.heap[k]?) : Mark w' bk mv gv v m := by
  rcases h with h | ⟨g, n, c, cur, rfl, h1, h2, h3, h4, h5, h6⟩
  · exact .inl h
  · exact .inr ⟨g, n, c, cur, rfl, h1, h2, h3, h4, by rw [hk g rfl]; exact h5, h6⟩
theorem Mark.lt {v : Value} {m : Int} (h : Mark w bk mv gv v m) {k : Nat} (hk : v.ownBlock = some k) : k < w.heap.size := by
  rcases h with rfl | ⟨g, n, c, cur, rfl, h1, h2, h3, h4, h5, h6⟩
  · simp [Value.ownBlock] at hk
  · simp [Value.ownBlock] at hk
    subst hk
    exact (Array.getElem?_eq_some_iff.1 h5).1
theorem Mark.type {v : Value} {m : Int} (h : Mark w bk mv gv v m) {k : Nat} {cur : Array Value} {e' : TypeId} {fr : Nat × Nat} (hk : w.heap[k]? = some (.cells cur e' fr)) (hne : 3 ≠ e') : v.ownBlock ≠ some k := by
  intro hv
  rcases h with rfl | ⟨g, n, c, cur', rfl, h1, h2, h3, h4, h5, h6⟩
  · simp [Value.ownBlock] at hv
  · simp [Value.ownBlock] at hv
    subst hv
    rw [h5] at hk
    injection hk with hk
    injection hk with _ h2 _
    exact hne h2

/-- what makes memory alone leaves the book -/
theorem Book.below (h : Book w bk L nx lv mv gv gs) (hb : Below w.heap.size w w') : Book w' bk L nx lv mv gv gs where
  blk := by rw [hb.block bk h.lt]; exact h.blk
  hl := owns_kept h.hl fun k hk => hb.block k (h.hl.lt k hk).2
  hm := owns_kept h.hm fun k hk => hb.block k (h.hm.lt k hk).2
  hg := owns_kept h.hg fun k hk => hb.block k (h.hg.lt k hk).2
  dist := h.dist
  marks := fun p hp => (h.marks p hp).kept fun k hk => hb.block k ((h.marks p hp).lt hk)

/-- a slice that owns something begins at its block's head -/
theorem owns_shape {base : Nat} {e : TypeId} {size : Nat} {v : Value} {n : Nat} {xs : List Value} (h : w.ownsRow base e size v n xs) : ∃ ao c, v = .slice ao n c ∧ (ao = none → n = 0 ∧ c = 0) := by
  rcases h.2 with ⟨rfl, rfl⟩ | ⟨g, cap, cur, rfl, _⟩
  · exact ⟨none, 0, rfl, fun _ => ⟨rfl, rfl⟩⟩
  · exact ⟨some ⟨g, 0, none⟩, cap, rfl, fun h => by cases h⟩
theorem owns_at {base : Nat} {e : TypeId} {v : Value} {n : Nat} {xs : List Value} (h : w.ownsRow base e 1 v n xs) (h0 : 0 < n) : ∃ g c, v = .slice (some ⟨g, 0, none⟩) n c ∧ base ≤ g ∧ g < w.heap.size ∧ ∀ j, j < n → w.cell? ⟨g, j, none⟩ = xs[j]? := by
  rcases h.2 with ⟨rfl, rfl⟩ | ⟨g, cap, cur, rfl, hb, hgg, hnc, hcm, hcs, htake⟩
  · omega
  · refine ⟨g, cap, rfl, hb, (Array.getElem?_eq_some_iff.1 hgg).1, fun j hj => ?_⟩
    rw [cell_of_row w g j cur e (0, 0) hgg, ← htake, Nat.mul_one, List.getElem?_take, if_pos hj]
    simp
end

theorem Mark.shape {w : World} {bk : Nat} {mv gv v : Value} {m : Int} (h : Mark w bk mv gv v m) : ∃ va ln vc, v = .slice va ln vc ∧ ln ≤ 400 ∧ (0 < ln → ∃ g, va = some ⟨g, 0, none⟩ ∧ ∀ k, k < ln → w.cell? ⟨g, k, none⟩ = some (.int .i64 m)) := by
  rcases h with rfl | ⟨g, n, c, cur, rfl, h1, h2, h3, h4, h5, h6⟩
  · exact ⟨none, 0, 0, rfl, by omega, fun h => by omega⟩
  · exact ⟨_, n, c, rfl, h4, fun _ => ⟨g, rfl, fun k hk => by rw [cell_of_row w g k cur 3 (0, 0) h5]; exact h6 k hk⟩⟩

set_option maxRecDepth 20000 in
set_option maxHeartbeats 1000000 in
theorem looks_any {w : World} {bk : Nat} {L : List (Value × Int)} {nx : Int} {lv mv gv : Value} {gs : List Int} (hB : Book w bk L nx lv mv gv gs) (hL : L.length ≤ 100000000) :
    Calls Try.prog 9 #[.pointer (some ⟨bk, 0, none⟩)] w fun e w' => e = .returned (.bool true) ∧ ∃ n, w' = w.drewN n := by
  have HB : Hid (Book w bk L nx lv mv gv gs) := hB
  obtain ⟨la, lc, hlv, _⟩ := owns_shape hB.hl
  obtain ⟨ma, mc, hmv, _⟩ := owns_shape hB.hm
  have c0 : w.cell? ⟨bk, 0, none⟩ = some (.slice la L.length lc) := by rw [hB.cell0, hlv]
  have c1 : w.cell? ⟨bk, 1, none⟩ = some (.slice ma L.length mc) := by rw [hB.cell1, hmv]
  have HLV : Hid (lv = .slice la L.length lc) := hlv
  have HMV : Hid (mv = .slice ma L.length mc) := hmv
  clear hlv hmv hB
  go_enter Try.func9, Try.ntmps9
  go_wp2
  go_loopw [3] (fun i wr => ∃ k n : Nat, k ≤ L.length ∧ i = .int .i64 k ∧ wr = w.drewN n) (fun i _ => L.length - (intOf i).toNat)
  case atStart => exact ⟨0, 0, by omega, rfl, rfl⟩
  case round =>
    obtain ⟨i, n, hi, rfl, rfl⟩ := hrel
    by_cases hlt : i < L.length
    · obtain ⟨gl, lc', hv, _, _, hcl⟩ := owns_at HB.out.hl (by omega)
      rw [HLV.out] at hv
      injection hv with e1 e2 e3
      subst e1 e3
      obtain ⟨gm, mc', hv, _, _, hcm⟩ := owns_at HB.out.hm (by omega)
      rw [HMV.out] at hv
      injection hv with e1 e2 e3
      subst e1 e3
      obtain ⟨va, ln, vc, hv, hln, hseg⟩ := (HB.out.marks L[i] (List.getElem_mem hlt)).shape
      obtain ⟨m, hm⟩ : ∃ m, m = (L[i]).2 := ⟨_, rfl⟩
      rw [← hm] at hseg
      have ci : w.cell? ⟨gl, i, none⟩ = some (.slice va ln vc) := by rw [hcl i hlt]; simp [hlt, hv]
      have cm : w.cell? ⟨gm, i, none⟩ = some (.int .i64 m) := by rw [hcm i hlt]; simp [hlt, hm]
      have HS : Hid (0 < ln → ∃ g, va = some ⟨g, 0, none⟩ ∧ ∀ k, k < ln → w.cell? ⟨g, k, none⟩ = some (.int .i64 m)) := hseg
      clear hseg hv hm hcl hcm HLV HMV
      go_wp2
      go_loopw [4] (fun j wr => ∃ k n : Nat, k ≤ ln ∧ j = .int .i64 k ∧ wr = w.drewN n) (fun j _ => ln - (intOf j).toNat)
      case atStart => exact ⟨0, n, by omega, rfl, rfl⟩
      case round =>
        obtain ⟨k, n', hk, rfl, rfl⟩ := hrel
        by_cases hkl : k < ln
        · obtain ⟨g, rfl, hc⟩ := HS.out (by omega)
          have cg : w.cell? ⟨g, k, none⟩ = some (.int .i64 m) := hc k hkl
          clear hc
          go_wp2
          go_quiet (fail)
          go_wp2
          go_roundw
          case rel => exact ⟨k + 1, _, by omega, by go_num, rfl⟩
          case measure => simp [intOf]; omega
        · go_wp2
          go_roundw
          case rel => exact ⟨i + 1, _, by omega, by go_num, rfl⟩
          case measure => simp [intOf]; omega
    · go_wp2
      go_ret
      exact ⟨rfl, n, rfl⟩
end Go.Proofs.Ythdmjmnkhlpnnaa
