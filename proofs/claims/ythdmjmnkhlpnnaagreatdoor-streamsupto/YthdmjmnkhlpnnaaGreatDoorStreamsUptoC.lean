/-
  balelaw.Streams is true at any level and all scripts of Write, Flush, Close and Take on two streams that hold together at most 1048576 values and letters: what was taken tells, read by the document's reader, a beginning of what was written, and all of it where a Flush or Close came last; from a full Flush on by itself; behind each Flush the last four bytes are those of the document; behind Close calls say ErrClosed; and there are never more bytes than the document says.
  Conditions: the bound of 'uptoSmall' (what is packed is longer than what came in, so without a bound it would outgrow memory), and what the card lists and ties: the package-level tables bale/format.order and bale/pack.efforts hold what their initialisers lay. No other.
-/
import Derived.Test.YthdmjmnkhlpnnaaGreatDoorCards
import Derived.Test.YthdmjmnkhlpnnaaGreatDoorTie
import Derived.Test.YthdmjmnkhlpnnaaGreatDoorStbC
import Derived.Test.YthdmjmnkhlpnnaaGreatDoorZ34
import Derived.WalkKit
import Derived.ProofKit
import Derived.OpenShut
import Derived.Deep.Slices
import Derived.Deep.DeepHandedRow
import Derived.Lib.LaidTab
namespace Go.Proofs.YthdmjmnkhlpnnaaGreatDoor.streams0
open Go.ChangeShapes Go.WideShapes Go.ChangeAt Go.RowKit Go.Deep
open Go.ChangeMaps (open_string shut_string)

instance : Inhabited Opd := ⟨⟨0, 0, .empty, none, 0, 0⟩⟩
theorem own : ownKnob Tryz.prog.godebug = none := by kernel_rfl
theorem laidOut : laidOutB Tryz.prog = true := by kernel_rfl
theorem cellsO : Tryz.prog.cellsOf 75 = 4 := by kernel_rfl
theorem cellsI : Tryz.prog.cellsOf 3 = 1 := by kernel_rfl
theorem cellsS : Tryz.prog.cellsOf 9 = 1 := by kernel_rfl
theorem cellsL : Tryz.prog.cellsOf 54 = 1 := by kernel_rfl
theorem one_le {H : Type} (d : DataW H) : 1 ≤ Rows.uptoBulk d := by
  cases d with
  | lit l => cases l <;> simp [Rows.uptoBulk]
  | _ => simp [Rows.uptoBulk]
theorem bulk_app {H : Type} (a b : List (DataW H)) : Rows.uptoBulkAll (a ++ b) = Rows.uptoBulkAll a + Rows.uptoBulkAll b := by
  induction a with
  | nil => simp [Rows.uptoBulkAll]
  | cons x r ih => rw [List.cons_append, Rows.uptoBulkAll, Rows.uptoBulkAll, ih]; omega
theorem opL_app (a b : List Opd) : opL (a ++ b) = opL a + opL b := by
  induction a with
  | nil => simp [opL]
  | cons x r ih => rw [List.cons_append, opL, opL, ih]; omega
theorem ops_le {H : Type} (o : Nat → Opd) (D : Nat → DataW H) (n : Nat) (h : ∀ i, i < n → (o i).s.size + 5 ≤ Rows.uptoBulk (D i)) : opL ((List.range n).map o) + 5 * n ≤ Rows.uptoBulkAll ((List.range n).map D) := by
  induction n with
  | zero => simp [opL, Rows.uptoBulkAll]
  | succ n ih =>
    have h1 := ih (fun i hi => h i (by omega))
    have h2 := h n (by omega)
    rw [List.range_succ, List.map_append, List.map_append, bulk_app, opL_app]
    simp only [List.map_cons, List.map_nil, opL, Rows.uptoBulkAll]
    omega
theorem add_plain (b off j : Nat) : (⟨b, off, none⟩ : Addr).add j = ⟨b, off + j, none⟩ := by unfold Addr.add; split <;> simp_all
theorem four {α : Type} {l : List α} (h : l.length = 4) : ∃ a b c d, l = [a, b, c, d] := by
  match l, h with
  | [a, b, c, d], _ => exact ⟨a, b, c, d, rfl⟩
set_option maxRecDepth 100000 in
/-- one Op, out of its cells -/
theorem op_at {H : Type} {enc : TypeId × Value → H} {W : World} {a : Addr} {i n : Nat} {cs : List Value} {d : DataW H} {pl : List MemPlace} (h1 : W.cells? 0 (a.add (i * 4)) 4 = some cs) (h2 : DataW.trod enc Tryz.prog W 0 (fun _ => true) true n 75 cs = some (d, pl)) :
    ∃ o : Opd, (W.cell? (a.add (i * 4)) = some (.int .i64 o.k) ∧ W.cell? (a.add (i * 4 + 1)) = some (.int .i64 o.n) ∧ W.cell? (a.add (i * 4 + 2)) = some (.string o.s) ∧ W.cell? (a.add (i * 4 + 3)) = some (.slice o.a o.l o.c)) ∧ o.s.size + 5 ≤ Rows.uptoBulk d := by
  obtain ⟨_, hlen, hcell⟩ := World.cells?_some h1
  obtain ⟨xs, k, hk, hxy, _, hxl, hf⟩ := DataW.trod_struct Tryz.underlying75 h2
  obtain ⟨y0, y1, y2, y3, rfl⟩ := four (l := xs) hxl
  obtain ⟨v0, v1, v2, v3, rfl⟩ := four hlen
  have g0 := hf 0 _ rfl
  have g1 := hf 1 _ rfl
  have g2 := hf 2 _ rfl
  have g3 := hf 3 _ rfl
  simp [cellsI, cellsS, cellsL] at g0 g1 g2 g3
  have e0 := hcell 0 (by omega)
  have e1 := hcell 1 (by omega)
  have e2 := hcell 2 (by omega)
  have e3 := hcell 3 (by omega)
  rw [add_add] at e0 e1 e2 e3
  simp at e0 e1 e2 e3
  obtain ⟨m0, r0, s0, _⟩ := DataW.trod_int Tryz.underlying3 g0
  obtain ⟨m1, r1, s1, _⟩ := DataW.trod_int Tryz.underlying3 g1
  obtain ⟨m2, r2, s2, _⟩ := DataW.trod_string Tryz.underlying9 g2
  obtain ⟨la, ll, lc, r3⟩ : ∃ (la : Option Addr) (ll lc : Nat), v3 = .slice la ll lc := by
    rcases open_slice Tryz.underlying54 g3 with ⟨q, _⟩ | ⟨a', l', c', _, _, _, _, q, _⟩
    · exact ⟨none, 0, 0, by simpa using q⟩
    · exact ⟨some a', l', c', by simpa using q⟩
  simp only [List.cons.injEq, and_true] at r0 r1 r2
  simp only [Prod.mk.injEq] at hxy
  refine ⟨⟨m0, m1, m2, la, ll, lc⟩, ⟨by rw [e0, r0], by rw [e1, r1], by rw [e2, r2], by rw [e3, r3]⟩, ?_⟩
  have hz := szl m2
  have h3 := one_le y3.1
  rw [hxy.1, s0, s1, s2]
  simp only [List.map_cons, List.map_nil, Rows.uptoBulk, Rows.uptoBulkAll]
  omega

set_option maxRecDepth 100000 in
set_option maxHeartbeats 1000000 in
theorem contract (H : Type) (enc : TypeId × Value → H) (W : World) (base : Nat) (args : Array Value) (ds gs : List (DataW H)) (before : List MemPlace)
    (hval : ∀ (j : Nat) t v, Tryz.f8.params[j]? = some t → args[j]? = some v → Value.okWide Tryz.prog W .any base t v)
    (hW : DataW.Whole enc Tryz.prog Tryz.f8.params.toList Rows.streamsSpec.vars false W args.toList ds gs before) (hL : laidMetH Tryz.prog Rows.streamsUptoRow.laid W) (hk : Rows.uptoSmall H (ds ++ gs) = true) :
    Calls Tryz.prog 8 args W fun e W' => ∃ v, e = .returned v ∧ Rows.streamsSpec.post enc Tryz.prog Tryz.f8 false true false false W args v W' := by
  have hW' := hW
  obtain ⟨p, q, hA0, hV, rfl, hfz, hnd⟩ := hW
  have hA : DataW.TrodAll enc Tryz.prog W 0 (fun _ => true) true Tryz.f8.params.toList args.toList ds p := hA0
  rw [Tryz.params8] at hA hval
  obtain ⟨v0, vs0, d0, ds0, p0, q0, hargs, rfl, rfl, h0, r0⟩ := trodAll_cons hA
  obtain ⟨v1, vs1, d1, ds1, p1, q1, rfl, rfl, rfl, h1, r1⟩ := trodAll_cons r0
  obtain ⟨rfl, rfl, rfl⟩ := trodAll_nil r1
  obtain rfl : args = #[v0, v1] := by cases args; simp_all
  obtain ⟨rfl, rfl⟩ := trodVars_none hV
  obtain ⟨m, rfl, rfl, rfl, hwm⟩ := open_int Tryz.underlying3 (hval 0 3 v0 rfl rfl) h0
  obtain ⟨a1, len, cap, rfl⟩ := okWide_slice Tryz.underlying40 (hval 1 40 v1 rfl rfl)
  have h1k := h1
  obtain ⟨fuel, hf⟩ := h1
  clear hA0
  simp only [List.append_nil] at hW' hk
  have hbulk : Rows.uptoBulkAll [DataW.lit (H := H) (.int .i64 m), d1] ≤ 1048576 := of_decide_eq_true hk
  simp only [Rows.uptoBulkAll] at hbulk
  have hlt : ∀ x ∈ p1, x.block < W.heap.size := fun x hx => by
    have := hW'.lt x (by simp [hx])
    simpa using this
  have fin : ∀ os : List Opd, os.length = len → Ops W a1 os → opL os + 5 * os.length ≤ 1048576 → Calls Tryz.prog 8 #[.int .i64 m, .slice a1 len cap] W fun e W' => ∃ v, e = .returned v ∧ Rows.streamsSpec.post enc Tryz.prog Tryz.f8 false true false false W #[.int .i64 m, .slice a1 len cap] v W' := by
    intro os e0 ho hb
    subst e0
    refine (streams_walk W m a1 cap os ho (by omega) (by omega) (gl2_of_laid hL)).mono fun e W' ⟨he, hb⟩ => ?_
    subst he
    refine ⟨_, rfl, _, _, _, [], [] ++ (p1 ++ []), [], hW', ?_, ?_, rfl, hb.frame _, fun h => by cases h⟩
    · exact trodAll_cons_mk (shut_bool Tryz.underlying4 _) trodAll_mk0
    · exact trodAll_cons_mk (shut_int Tryz.underlying3 hwm) (trodAll_cons_mk (Below.trod laidOut (by kernel_rfl) (of_decide_eq_true (by kernel_rfl)) h1k hb hlt) trodAll_mk0)
  rcases open_slice Tryz.underlying40 hf with ⟨hcs, hx⟩ | ⟨a, len', cap', mm, nn, D, Pl, hcs, _, hl, hmx, hmm, hx, hat⟩
  · simp [Value.cells] at hcs
    obtain ⟨rfl, rfl, rfl⟩ := hcs
    exact fin [] rfl (fun j o h => by simp at h) (by simp [opL])
  · simp [Value.cells] at hcs
    obtain ⟨rfl, rfl, rfl⟩ := hcs
    simp only [if_true] at hmm
    rw [cellsO] at hat
    obtain ⟨o, ho⟩ := choose_lt (α := Opd) (n := len) (p := fun i o => (W.cell? (a.add (i * 4)) = some (.int .i64 o.k) ∧ W.cell? (a.add (i * 4 + 1)) = some (.int .i64 o.n) ∧ W.cell? (a.add (i * 4 + 2)) = some (.string o.s) ∧ W.cell? (a.add (i * 4 + 3)) = some (.slice o.a o.l o.c)) ∧ o.s.size + 5 ≤ Rows.uptoBulk (D i)) (fun i hi => by
      obtain ⟨cs', h1, h2⟩ := hat i (by omega)
      exact op_at h1 h2)
    have hbk := ops_le o D len (fun i hi => (ho i hi).2)
    simp only [Prod.mk.injEq] at hx
    rw [hx.1] at hbulk
    simp only [Rows.uptoBulk] at hbulk
    refine fin ((List.range len).map o) (by simp) (fun j x hj => ?_) (by simp only [List.length_map, List.length_range]; omega)
    have hjl : j < len := by
      have := (List.getElem?_eq_some_iff.1 hj).1
      simpa using this
    obtain rfl : x = o j := by
      rw [List.getElem?_map, List.getElem?_range hjl] at hj
      simpa using hj.symm
    obtain ⟨⟨c0, c1, c2, c3⟩, _⟩ := ho j hjl
    obtain ⟨b, off, spot⟩ := a
    have hspot : spot = none := by simpa [Addr.add] using World.cell?_spot (ho 0 (by omega)).1.1
    subst hspot
    rw [add_plain] at c0 c1 c2 c3
    exact ⟨b, off, rfl, cell_in c0, c0, c1, c2, c3⟩

/-- a world for the witness: the settled one, the tables holding what their initialisers lay -/
noncomputable def laidOne (os : Os) : Array Obj := (World.holding Tryz.prog os ⟨#[], #[], []⟩).heap.modify 1 fun
      | .cells _ t frozen => .cells #[.int .i64 16, .int .i64 17, .int .i64 18, .int .i64 0, .int .i64 8, .int .i64 7, .int .i64 9, .int .i64 6, .int .i64 10, .int .i64 5, .int .i64 11, .int .i64 4, .int .i64 12, .int .i64 3, .int .i64 13, .int .i64 2, .int .i64 14, .int .i64 1, .int .i64 15] t frozen
      | o => o
noncomputable def laidWorld (os : Os) : World :=
  { World.holding Tryz.prog os ⟨#[], #[], []⟩ with heap := (laidOne os).modify 0 fun
      | .cells _ t frozen => .cells #[.int .i64 4, .int .i64 1, .int .i64 8, .int .i64 1, .int .i64 16, .int .i64 1, .int .i64 16, .int .i64 8, .int .i64 32, .int .i64 16, .int .i64 64, .int .i64 32, .int .i64 128, .int .i64 64, .int .i64 256, .int .i64 128, .int .i64 512, .int .i64 258] t frozen
      | o => o }
theorem laid_met (os : Os) : laidMet Tryz.prog Rows.streamsUptoRow.laid ((laidWorld os).forCall (fun _ _ => 0) ⟨#[], #[.int .i64 0, .slice none 0 0], []⟩).memory :=
  laidMet_of_run' 8 (by kernel_rfl) (by kernel_rfl)
theorem reads (os : Os) {H : Type} (enc : TypeId × Value → H) : ∃ places, DataW.whole enc Tryz.prog ((laidWorld os).forCall (fun _ _ => 0) ⟨#[], #[.int .i64 0, .slice none 0 0], []⟩).memory Tryz.f8.params.toList Rows.streamsSpec.vars false #[Value.int .i64 0, Value.slice none 0 0].toList 8 = some ([.lit (.int .i64 0), .nil], [], places) :=
  ⟨[], by kernel_rfl⟩

set_option maxRecDepth 100000 in
theorem liftedUpto (os : Os) (started : os.Started) (H : Type) (enc : TypeId × Value → H) (F : Stop.Interp) :
    ReturnsInHanded {} Tryz.checked os 8 .any ((Rows.OpenSpec.upto Rows.streamsSpec).preRow enc Tryz.prog Tryz.f8 Rows.streamsUptoRow.domain false Rows.streamsUptoRow.laid) (((Rows.OpenSpec.upto Rows.streamsSpec).at F).post enc Tryz.prog Tryz.f8 false true false false) := by
  obtain ⟨places, hx⟩ := reads os enc
  refine returnsInHanded_of_row (C := Tryz.checked) (s := Rows.OpenSpec.upto Rows.streamsSpec) own started (by kernel_rfl) Tryz.func8
    (witness_row_at (enc := enc) (C := Tryz.checked) false (laidWorld os) #[.int .i64 0, .slice none 0 0] rfl (by kernel_rfl) (by kernel_rfl) (by kernel_rfl)
      (OpenSpec.preRow_of_cond 8 hx (by kernel_rfl) (fun k hk => by cases hk; kernel_rfl) (by kernel_rfl) (laid_met os))) ?_
  intro W base args ds gs before hval hW _ hcond _ hL _ _
  exact contract H enc W base args ds gs before hval hW hL (hcond _ rfl)

theorem saidUpto : Rows.StreamsUptoSaid :=
  OpenClaim.holds_of_cond 8 Tryz.f8 rfl rfl rfl rfl rfl rfl rfl ⟨rfl, rfl, rfl, rfl, rfl⟩ rfl rfl rfl rfl rfl (by kernel_rfl) Tryz.func8 (by kernel_rfl)
    (of_decide_eq_true (by kernel_rfl)) (by unfold Func.isWrapper; first | (rw [if_pos (by decide +kernel)]; kernel_rfl) | (rw [if_neg (by decide +kernel)]; exact ⟨rfl, rfl⟩))
    (fun os started H enc _ F => by rw [OpenClaim.pre_eq_preRow]; exact liftedUpto os started H enc F)

/-- no parameter wants a stand-in; the program's own looks are off -/
theorem plain (f : FuncId) (fn : Func) (hf : Tryz.pinned.checked.prog.funcNamed "bale/balelaw.Streams" = some f) (hfn : Tryz.pinned.checked.prog.funcs[f]? = some fn) :
    true = Tryz.pinned.checked.prog.looks [] ∧ ∀ (j : Nat) t, fn.params[j]? = some t → Tryz.pinned.checked.prog.wantsStandIn t = false := by
  obtain rfl : f = 8 := Option.some.inj ((show Tryz.prog.funcNamed "bale/balelaw.Streams" = some 8 by kernel_rfl).symm.trans hf) |>.symm
  obtain rfl : fn = Tryz.f8 := (Option.some.inj (Tryz.func8.symm.trans hfn)).symm
  refine ⟨by kernel_rfl, fun j t ht => ?_⟩
  rw [Tryz.params8] at ht
  rcases j with _ | _ | j
  · obtain rfl : t = 3 := by simpa using ht.symm
    exact (show Tryz.prog.wantsStandIn 3 = false by kernel_rfl)
  · obtain rfl : t = 40 := by simpa using ht.symm
    exact (show Tryz.prog.wantsStandIn 40 = false by kernel_rfl)
  · simp at ht

theorem cardUpto : Rows.StreamsUptoCardSaid :=
  Claim7.holds_tied_plain_at .later [] _ _ _ _ saidUpto (fun _ h => by cases h) (by kernel_rfl) (fun _ h => by cases h) streamsUpto_row_tie rfl ⟨rfl, rfl⟩ (by kernel_rfl) rfl plain (by kernel_rfl)
end Go.Proofs.YthdmjmnkhlpnnaaGreatDoor.streams0

namespace Go.Proofs.YthdmjmnkhlpnnaaGreatDoor
theorem streams_upto : Rows.StreamsUptoCardSaid := streams0.cardUpto
end Go.Proofs.YthdmjmnkhlpnnaaGreatDoor
