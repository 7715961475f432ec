/-
  What singleParcels answers: a parcel for each count above 0.
-/
import Derived.Test.YthdmjmnkhlpnnaaHeapp
import Derived.Test.YthdmjmnkhlpnnaaHeapt
import Derived.Test.YthdmjmnkhlpnnaaConcat
namespace Go.Proofs.Ythdmjmnkhlpnnaa
open Go.RowKit

/-- a parcel's symbols lie in a block of numbers -/
def PcOk (w : World) (p : Pc) : Prop := ∃ g cur, p.ao = some ⟨g, 0, none⟩ ∧ w.heap[g]? = some (.cells cur 3 (0, 0)) ∧ (∀ j, j < p.sy.length → cur[j]? = some (.int .i64 (p.sy.getD j 0))) ∧ 0 < p.sy.length
theorem PcOk.kept {w w' : World} {p : Pc} (h : PcOk w p) (hk : ∀ (g : Nat) (cur : Array Value), w.heap[g]? = some (.cells cur 3 (0, 0)) → w'.heap[g]? = w.heap[g]?) : PcOk w' p := by
  obtain ⟨g, cur, e, hg, hc, h0⟩ := h
  exact ⟨g, cur, e, by rw [hk g cur hg]; exact hg, hc, h0⟩
theorem PcOk.below {w w' : World} {p : Pc} (h : PcOk w p) (hb : Below w.heap.size w w') : PcOk w' p :=
  h.kept fun g _ hg => hb.block g (Array.getElem?_eq_some_iff.1 hg).1
theorem PcOk.grown {w w' : World} {p : Pc} (h : PcOk w p) {base n : Nat} {v : Value} {xs : List Value} (hown : w.ownsRow base 58 2 v n xs) (hg : w.grownBy w' v.ownBlock) : PcOk w' p :=
  h.kept fun g cur hh => hg.block g (Array.getElem?_eq_some_iff.1 hh).1 (fun e => owns_type hown hh (by decide) e.symm)
theorem PcOk.only {w w' : World} {p : Pc} (h : PcOk w p) {hb : Nat} {iv : Value} {ps : List Pc} (hh : Heap w hb iv ps) (ho : Only hb iv w w') : PcOk w' p :=
  h.kept fun g cur hg => ho.block g (Array.getElem?_eq_some_iff.1 hg).1 (fun e => by subst e; rw [hh.blk] at hg; injection hg with hg; injection hg with _ h2; cases h2) (owns_type hh.own hg (by decide))
theorem PcOk.seg {w : World} {p : Pc} (h : PcOk w p) : ∃ g, p.ao = some ⟨g, 0, none⟩ ∧ Seg w (some ⟨g, 0, none⟩) p.sy ∧ 0 < p.sy.length := by
  obtain ⟨g, cur, e, hg, hc, h0⟩ := h
  exact ⟨g, e, fun _ => ⟨g, 0, rfl, fun j hj => by rw [Nat.zero_add, cell_of_row w g j cur 3 (0, 0) hg]; exact hc j hj⟩, h0⟩
theorem PcOk.own {w : World} {base n cap g : Nat} {sy : List Int} {wt : Int} (h : w.ownsRow base 3 1 (.slice (some ⟨g, 0, none⟩) n cap) n (sy.map (Value.int .i64))) (h0 : 0 < sy.length) : PcOk w ⟨some ⟨g, 0, none⟩, cap, wt, sy⟩ := by
  have hl : sy.length = n := by have := h.1; simpa using this
  rcases h.2 with ⟨e, _⟩ | ⟨g', cap', cur, e, hb, hg, hnc, hcm, hcs, ht⟩
  · cases e
  · injection e with e1 e2 e3
    injection e1 with e1
    injection e1 with e1
    subst e1
    refine ⟨g, cur, rfl, hg, fun j hj => ?_, h0⟩
    have h1 : (cur.toList.take (n * 1))[j]? = some (Value.int .i64 (sy.getD j 0)) := by rw [ht]; simp [hj]
    rw [List.getElem?_take] at h1
    split at h1
    · simpa using h1
    · cases h1

/-- what a parcel says -/
def pabs (p : Pc) : Int × List Int := (p.wt, p.sy)
/-- the singles of counts, from a place on -/
def singAt : Nat → List Int → List (Int × List Int)
  | _, [] => []
  | i, c :: r => if 0 < c then (c, [(i : Int)]) :: singAt (i + 1) r else singAt (i + 1) r
def sing (cs : List Int) : List (Int × List Int) := singAt 0 cs
theorem singAt_snoc (i : Nat) (cs : List Int) (c : Int) : singAt i (cs ++ [c]) = singAt i cs ++ if 0 < c then [(c, [((i + cs.length : Nat) : Int)])] else [] := by
  induction cs generalizing i with
  | nil => simp [singAt]
  | cons d cs ih =>
    simp only [List.cons_append, singAt, ih (i + 1)]
    have e : i + 1 + cs.length = i + (d :: cs).length := by simp; omega
    rw [e]
    split <;> simp
theorem sing_take_succ (cs : List Int) (k : Nat) (h : k < cs.length) : sing (cs.take (k + 1)) = sing (cs.take k) ++ if 0 < cs.getD k 0 then [(cs.getD k 0, [(k : Int)])] else [] := by
  unfold sing
  rw [take_snocI cs k h, singAt_snoc]
  have e : 0 + (cs.take k).length = k := by simp; omega
  rw [e]
theorem sing_len (i : Nat) (cs : List Int) : (singAt i cs).length ≤ cs.length := by
  induction cs generalizing i with
  | nil => simp [singAt]
  | cons d cs ih =>
    have := ih (i + 1)
    simp only [singAt]
    split <;> simp <;> omega

theorem step_single {w wr w1 : World} {v v' : Value} {S : List Pc} {k : Nat} {cs : List Int} {c : Int} {A : Obj} (hc : 0 < c) (hck : cs.getD k 0 = c) (hk : k < cs.length) (hown : wr.ownsRow w.heap.size 58 2 v S.length (flat S)) (hB : Below w.heap.size w wr) (hS : S.map pabs = sing (cs.take k)) (hP : ∀ p ∈ S, PcOk wr p)
    (hown' : w1.ownsRow w.heap.size 58 2 v' (S.length + 1) (flat S ++ [.int .i64 c, .slice (some ⟨wr.heap.size, 0, none⟩) 1 1])) (hg : ((wr.alloc (.cells #[.int .i64 (k : Int)] 3)).alloc A).grownBy w1 v.ownBlock) :
    ∃ S', w1.ownsRow w.heap.size 58 2 v' S'.length (flat S') ∧ Below w.heap.size w w1 ∧ S'.map pabs = sing (cs.take (k + 1)) ∧ ∀ p ∈ S', PcOk w1 p := by
  have hsz := hB.size
  refine ⟨S ++ [⟨some ⟨wr.heap.size, 0, none⟩, 1, c, [(k : Int)]⟩], ?_, ?_, ?_, ?_⟩
  · rw [List.length_append, flat_append]; exact hown'
  · exact ((hB.alloc hsz _).alloc (by simp; omega) A).grown hg (by simp; omega) (fun j hj => (hown.lt j hj).1)
  · rw [List.map_append, hS, sing_take_succ cs k hk, hck, if_pos hc]; rfl
  · have hg' : ∀ p, PcOk ((wr.alloc (.cells #[.int .i64 (k : Int)] 3)).alloc A) p → PcOk w1 p := fun p hp => hp.grown ((hown.alloc _).alloc _) hg
    intro p hp
    rcases List.mem_append.1 hp with hp | hp
    · exact hg' p ((hP p hp).below (((Below.refl _ _).alloc (Nat.le_refl _) _).alloc (by simp) _))
    · simp at hp
      subst hp
      refine hg' _ ⟨wr.heap.size, #[.int .i64 (k : Int)], rfl, ?_, fun j hj => ?_, by simp⟩
      · rw [Below.heap_alloc _ _ _ (by simp)]; exact heap_alloc_new wr _
      · have : j = 0 := by simpa using hj
        subst this; rfl

set_option maxRecDepth 20000 in
set_option maxHeartbeats 2000000 in
theorem singles_any (ao : Option Addr) (c : Nat) (cs : List Int) (w : World) (hs : Seg w ao cs) (hm : cs.length ≤ 320) :
    Calls Try.prog 32 #[.slice ao cs.length c] w fun e w' => ∃ v S, e = .returned v ∧ w'.ownsRow w.heap.size 58 2 v S.length (flat S) ∧ Below w.heap.size w w' ∧ S.map pabs = sing cs ∧ ∀ p ∈ S, PcOk w' p := by
  obtain ⟨i0, hi0, hz0, hz1, hz2⟩ := info_parts info58
  go_enter Try.func32, Try.ntmps32
  go_wp2
  go_loopw [3, 8] (fun v i wr => ∃ (k : Nat) (S : List Pc), k ≤ cs.length ∧ i = .int .i64 k ∧ S.length ≤ k ∧ Hid (wr.ownsRow w.heap.size 58 2 v S.length (flat S) ∧ Below w.heap.size w wr ∧ S.map pabs = sing (cs.take k) ∧ ∀ p ∈ S, PcOk wr p)) (fun _ i _ => cs.length - (intOf i).toNat)
  case atStart => exact ⟨0, [], by omega, rfl, by simp, World.ownsRow_nil _ _ _ _, Below.refl _ _, rfl, fun p hp => by cases hp⟩
  case round =>
    obtain ⟨k, S, hk, rfl, hSl, HS⟩ := hrel
    by_cases hlt : k < cs.length
    · obtain ⟨b, off, rfl, hc⟩ := hs (by omega)
      obtain ⟨z, hz⟩ : ∃ z, z = cs.getD k 0 := ⟨_, rfl⟩
      have hcw : w.cell? ⟨b, off + k, none⟩ = some (.int .i64 z) := by rw [hz]; exact hc k hlt
      have hbl : b < w.heap.size := World.block_lt_of_cell? w _ hcw
      have hcell : wr.cell? ⟨b, off + k, none⟩ = some (.int .i64 z) := (HS.out.2.1.cell (p := ⟨b, off + k, none⟩) hbl).trans hcw
      have HZ := hid hz
      have hsz := HS.out.2.1.size
      clear hz hc hs hcw
      by_cases hp : 0 < z
      · go_wp2_with (at_builtin; refine wpList_append_track _ rfl (.tmp 15) (.tmp 20) 54 rfl w.heap.size 58 i0 (.agg #[.int .i64 0, .slice none 0 0]) 2 32 Try.underlying54 hi0 hz0 hz1 hz2 rfl (by decide) _ _ _ rfl ((HS.out.1.alloc _).alloc _) ⟨wr.heap.size + 1, 0, none⟩ 1 1 [.int .i64 z, .slice (some ⟨wr.heap.size, 0, none⟩) 1 1] rfl rfl ?a1 ?a2 ?a3 ?a4 ?a5 ?_)
        case a1 => have := cells_new (wr.alloc (.cells #[.int .i64 (k : Int)] 3)) #[.int .i64 z, .slice (some ⟨wr.heap.size, 0, none⟩) 1 1] 58; simpa using this
        case a2 => intro u hu; simp at hu; rcases hu with rfl | rfl <;> rfl
        case a3 => unfold maxLen; omega
        case a4 => omega
        case a5 => simp; omega
        intro v' w1 hown' hgrow htr
        have hl1 := hown'.1
        obtain ⟨va, vc, rfl, _⟩ := owns_shape hown'
        have R := hid (step_single (w := w) (cs := cs) hp HZ.out.symm hlt HS.out.1 HS.out.2.1 HS.out.2.2.1 HS.out.2.2.2 (by exact hown') hgrow)
        clear hown' hgrow htr hl1
        go_wp2
        go_roundw
        case rel =>
          obtain ⟨S', r1, r2, r3, r4⟩ := R.out
          have hl : S'.length = S.length + 1 := by
            have e1 := congrArg List.length r3
            have e2 := congrArg List.length HS.out.2.2.1
            rw [sing_take_succ cs k hlt, ← HZ.out, if_pos hp] at e1
            simp at e1 e2
            omega
          exact ⟨k + 1, S', by omega, by go_num, by omega, by rw [hl] at r1 ⊢; exact r1, r2, r3, r4⟩
        case measure => simp [intOf]; omega
      · go_wp2
        go_roundw
        case rel =>
          refine ⟨k + 1, S, by omega, by go_num, by omega, HS.out.1, HS.out.2.1, ?_, HS.out.2.2.2⟩
          rw [sing_take_succ cs k hlt, ← HZ.out, if_neg hp, List.append_nil]
          exact HS.out.2.2.1
        case measure => simp [intOf]; omega
    · have e1 : cs.take k = cs := List.take_of_length_le (by omega)
      have HE := hid e1
      clear e1
      go_wp2
      go_ret
      have h3 := HS.out.2.2.1
      rw [HE.out] at h3
      exact ⟨_, S, rfl, HS.out.1, HS.out.2.1, h3, HS.out.2.2.2⟩
end Go.Proofs.Ythdmjmnkhlpnnaa
