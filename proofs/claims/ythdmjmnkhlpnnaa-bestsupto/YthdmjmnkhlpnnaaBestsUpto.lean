/-
  balelaw.Bests is true at every limit and all lists that together hold at most 1048576 values: Lengths answers the lengths of a best code (its cost is the document's least cost, it is whole and in order), or the document's error where there is none; it leaves the lists that are handed in as they are, answers the same again, and what comes out is memory of its own.
  Condition: the bound of 'uptoSmall' (the book of the lists that came out takes more memory than the lists that came in, so without a bound it would outgrow memory). No other.
-/
import Derived.Test.YthdmjmnkhlpnnaaRows
import Derived.Test.YthdmjmnkhlpnnaaBestw
import Derived.WalkKit
import Derived.ProofKit
import Derived.OpenShut
import Derived.JoinedCond
import Derived.Deep.Matrix
namespace Go.Proofs.Ythdmjmnkhlpnnaa.bests
open Go.ChangeShapes Go.WideShapes Go.ChangeAt Go.RowKit Go.Deep

theorem own : ownKnob Try.prog.godebug = none := by kernel_rfl
theorem laidOut : laidOutB Try.prog = true := by kernel_rfl
theorem cells27 : Try.prog.cellsOf 27 = 1 := by kernel_rfl
theorem cells3 : Try.prog.cellsOf 3 = 1 := by kernel_rfl

theorem one_le {H : Type} (d : DataW H) : 1 ≤ Rows.uptoBulk d := by
  cases d with
  | lit l => cases l <;> simp [Rows.uptoBulk]
  | nil => simp [Rows.uptoBulk]
  | ptr d => simp [Rows.uptoBulk]
  | slice elems spare => simp [Rows.uptoBulk]
  | agg parts => simp [Rows.uptoBulk]
  | iface t d => simp [Rows.uptoBulk]
  | map entries => simp [Rows.uptoBulk]
  | held h => simp [Rows.uptoBulk]
theorem many_le {H : Type} (l : List (DataW H)) : l.length ≤ Rows.uptoBulkAll l := by
  induction l with
  | nil => simp [Rows.uptoBulkAll]
  | cons x r ih => have := one_le x; simp only [Rows.uptoBulkAll, List.length_cons]; omega
theorem each_le {H : Type} {d : DataW H} {l : List (DataW H)} (h : d ∈ l) : Rows.uptoBulk d ≤ Rows.uptoBulkAll l := by
  induction l with
  | nil => cases h
  | cons x r ih =>
    simp only [Rows.uptoBulkAll]
    rcases List.mem_cons.1 h with e | e
    · subst e; omega
    · have := ih e; omega
theorem row_le {H : Type} {A : Option Addr} {L C : Nat} {zs : List Int} (h1 : L ≤ C) (h2 : zs.length = C) (h3 : A = none → C = 0) : L ≤ Rows.uptoBulk (intRow (H := H) .i64 A L zs) := by
  cases A with
  | none => have := h3 rfl; omega
  | some a =>
    simp only [intRow, Rows.uptoBulk]
    have := many_le (lits (H := H) .i64 (zs.take L))
    simp [lits] at this
    simp [lits]
    omega

theorem add_plain (b off j : Nat) : (⟨b, off, none⟩ : Addr).add j = ⟨b, off + j, none⟩ := by unfold Addr.add; split <;> simp_all

/-- what the reading of a slice of slices gives to the walk -/
theorem lists_of {W : World} {a : Addr} {len cap : Nat} {A : Nat → Option Addr} {L C : Nat → Nat} {Z : Nat → List Int} (hl : len ≤ cap) (hlen : len ≤ 1048576) (hL : ∀ r, r < len → L r ≤ 1048576)
    (hrows : ∀ r, r < cap → W.cell? (a.add r) = some (.slice (A r) (L r) (C r)) ∧ L r ≤ C r ∧ C r ≤ maxLen ∧ (Z r).length = C r ∧ (∀ n ∈ Z r, (Lit.int .i64 n).wf = true) ∧ (A r = none → C r = 0) ∧
        ∀ a', A r = some a' → 0 ≤ a'.block ∧ ∀ c, c < C r → W.cell? (a'.add c) = some (.int .i64 ((Z r).getD c 0))) :
    Lists W (some a) ((List.range len).map fun r => (A r, C r, (Z r).take (L r))) := by
  have tl : ∀ r, r < len → ((Z r).take (L r)).length = L r := fun r hr => by
    obtain ⟨_, h1, _, h2, _⟩ := hrows r (by omega)
    rw [List.length_take, h2]; omega
  refine ⟨fun h0 => ?_, fun p hp => ?_, by simpa using hlen⟩
  · simp at h0
    obtain ⟨b, off, spot⟩ := a
    have hspot : spot = none := by simpa [Addr.add] using World.cell?_spot (hrows 0 (by omega)).1
    subst hspot
    refine ⟨b, off, rfl, fun j hj => ?_⟩
    simp at hj
    have := (hrows j (by omega)).1
    rw [add_plain] at this
    rw [this]
    simp [tl j hj]
  · obtain ⟨r, hr, rfl⟩ := List.mem_map.1 hp
    have hr' := List.mem_range.1 hr
    obtain ⟨_, h1, _, h2, _, h3, h4⟩ := hrows r (by omega)
    refine ⟨fun h0 => ?_, fun e => ⟨by rw [tl r hr']; have := h3 e; omega, h3 e⟩, by rw [tl r hr']; exact hL r hr'⟩
    simp only [tl r hr'] at h0 ⊢
    cases hA : A r with
    | none => have := h3 hA; omega
    | some a' =>
      obtain ⟨_, hc⟩ := h4 a' hA
      obtain ⟨b, off, spot⟩ := a'
      have hspot : spot = none := by simpa [Addr.add] using World.cell?_spot (hc 0 (by omega))
      subst hspot
      refine ⟨b, off, rfl, fun j hj => ?_⟩
      have := hc j (by omega)
      rw [add_plain] at this
      rw [this]
      simp [hj]

set_option maxHeartbeats 1000000 in
theorem contract (H : Type) (enc : TypeId × Value → H) (W : World) (base : Nat) (args : Array Value) (ds gs : List (DataW H)) (before : List MemPlace)
    (hval : ∀ (j : Nat) t v, Try.f4.params[j]? = some t → args[j]? = some v → Value.okWide Try.prog W .any base t v)
    (hW : DataW.Whole enc Try.prog Try.f4.params.toList Rows.bestsSpec.vars false W args.toList ds gs before) (hk : Rows.uptoSmall H (ds ++ gs) = true) :
    Calls Try.prog 4 args W fun e W' => ∃ v, e = .returned v ∧ Rows.bestsSpec.post enc Try.prog Try.f4 false true false false W args v W' := by
  have hW' := hW
  obtain ⟨p, q, hA0, hV, rfl, hfz, hnd⟩ := hW
  have hA : DataW.TrodAll enc Try.prog W 0 (fun _ => true) true Try.f4.params.toList args.toList ds p := hA0
  rw [Try.params4] at hA hval
  obtain ⟨v0, vs0, d0, ds0, p0, q0, hargs, rfl, rfl, h0, r0⟩ := trodAll_cons hA
  obtain ⟨v1, vs1, d1, ds1, p1, q1, rfl, rfl, rfl, h1, r1⟩ := trodAll_cons r0
  obtain ⟨rfl, rfl, rfl⟩ := trodAll_nil r1
  obtain rfl : args = #[v0, v1] := by cases args; simp_all
  obtain ⟨rfl, rfl⟩ := trodVars_none hV
  obtain ⟨m, rfl, rfl, rfl, hwm⟩ := open_int Try.underlying3 (hval 1 3 v1 rfl rfl) h1
  obtain ⟨a0, len, cap, rfl⟩ := okWide_slice Try.underlying22 (hval 0 22 v0 rfl rfl)
  have h0k := h0
  obtain ⟨fuel, hf⟩ := h0
  clear hA0
  simp only [List.append_nil] at hW' hk
  have hbulk : Rows.uptoBulkAll [d0, DataW.lit (H := H) (.int .i64 m)] ≤ 1048576 := of_decide_eq_true hk
  simp only [Rows.uptoBulkAll] at hbulk
  have hlt : ∀ x ∈ p0, x.block < W.heap.size := fun x hx => by
    have := hW'.lt x (by simp [hx])
    simpa using this
  have fin : ∀ ls : List (Option Addr × Nat × List Int), ls.length = len → Lists W a0 ls → Calls Try.prog 4 #[.slice a0 len cap, .int .i64 m] W fun e W' => ∃ v, e = .returned v ∧ Rows.bestsSpec.post enc Try.prog Try.f4 false true false false W #[.slice a0 len cap, .int .i64 m] v W' := by
    intro ls hls hL
    subst hls
    refine (bests_walk m a0 cap ls W hL).mono fun e W' ⟨he, hb⟩ => ?_
    subst he
    refine ⟨_, rfl, _, _, _, [], p0 ++ ([] ++ []), [], hW', ?_, ?_, rfl, hb.frame _, fun h => by cases h⟩
    · exact trodAll_cons_mk (shut_bool Try.underlying4 _) trodAll_mk0
    · exact trodAll_cons_mk (Below.trod laidOut (by kernel_rfl) (of_decide_eq_true (by kernel_rfl)) h0k hb hlt) (trodAll_cons_mk (shut_int Try.underlying3 hwm) trodAll_mk0)
  rcases open_int_rows Try.underlying22 Try.underlying27 Try.underlying3 cells27 cells3 hf with ⟨hcs0, hx⟩ | ⟨a, len', cap', A, L, C, Z, hcs0, _, hl, hm, hx, hrows⟩
  · simp [Value.cells] at hcs0
    obtain ⟨rfl, rfl, rfl⟩ := hcs0
    exact fin [] rfl ⟨fun h => (by simp at h), fun p hp => (by cases hp), (by simp)⟩
  · simp [Value.cells] at hcs0
    obtain ⟨rfl, rfl, rfl⟩ := hcs0
    simp only [Prod.mk.injEq] at hx
    obtain ⟨hd, _⟩ := hx
    rw [hd] at hbulk
    simp only [Rows.uptoBulk] at hbulk
    have hn := many_le ((List.range len).map fun r => intRow (H := H) .i64 (A r) (L r) (Z r))
    simp only [List.length_map, List.length_range] at hn
    refine fin ((List.range len).map fun r => (A r, C r, (Z r).take (L r))) (by simp) (lists_of hl (by omega) (fun r hr => ?_) hrows)
    obtain ⟨_, g1, _, g2, _, g3, _⟩ := hrows r (by omega)
    have e1 := row_le (H := H) g1 g2 g3
    have e2 := each_le (H := H) (d := intRow .i64 (A r) (L r) (Z r)) (l := (List.range len).map fun r => intRow (H := H) .i64 (A r) (L r) (Z r)) (List.mem_map.2 ⟨r, List.mem_range.2 hr, rfl⟩)
    omega

set_option maxRecDepth 100000 in
theorem lifted (os : Os) (started : os.Started) (H : Type) (enc : TypeId × Value → H) (F : Stop.Interp) :
    ReturnsInHanded {} Try.checked os 4 .any ((Rows.OpenSpec.upto Rows.bestsSpec).pre6 enc Try.prog Try.f4 Rows.bestsUptoRow.domain false) (((Rows.OpenSpec.upto Rows.bestsSpec).at F).post enc Try.prog Try.f4 false true false false) := by
  refine returnsInHanded_of_cond (C := Try.checked) (s := Rows.OpenSpec.upto Rows.bestsSpec) (k := Rows.uptoSmall) rfl own started (by kernel_rfl) Try.func4
    (OpenSpec.witness (enc := enc) (C := Try.checked) (s := Rows.OpenSpec.upto Rows.bestsSpec) (k := Rows.uptoSmall) rfl false ⟨#[], #[.slice none 0 0, .int .i64 0], []⟩ 8 (by kernel_rfl) (by kernel_rfl) (by kernel_rfl)
      (x := ([.nil, .lit (.int .i64 0)], [], [])) (by kernel_rfl) rfl (by kernel_rfl)) ?_
  intro W base args ds gs before hval hW _ hk _
  exact contract H enc W base args ds gs before hval hW hk

theorem proved : Rows.BestsUptoSaid :=
  OpenClaim.holds_of_cond 4 Try.f4 rfl rfl rfl rfl rfl rfl rfl ⟨rfl, rfl, rfl, rfl, rfl⟩ rfl rfl rfl rfl rfl (by kernel_rfl) Try.func4 (by kernel_rfl)
    (of_decide_eq_true (by kernel_rfl)) (by unfold Func.isWrapper; first | (rw [if_pos (by decide +kernel)]; kernel_rfl) | (rw [if_neg (by decide +kernel)]; exact ⟨rfl, rfl⟩))
    (fun os started H enc _ F => lifted os started H enc F)
end Go.Proofs.Ythdmjmnkhlpnnaa.bests

namespace Go.Proofs.Ythdmjmnkhlpnnaa
theorem bests_upto : Rows.BestsUptoSaid := bests.proved
end Go.Proofs.Ythdmjmnkhlpnnaa
