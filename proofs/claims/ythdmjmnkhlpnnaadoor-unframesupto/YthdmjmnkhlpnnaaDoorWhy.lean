/-
  Why the reader gave up: the program's whyGivenUp and its deferred function.
-/
import Derived.Test.YthdmjmnkhlpnnaaDoorBlk
import Derived.Defers
import Derived.Recover
namespace Go.Proofs.YthdmjmnkhlpnnaaDoor
open Go.RowKit

theorem catch_idle (p : Addr) (w : World) :
    CallsD Tryd.prog 32 #[.pointer (some p)] .returning w fun e u' w' => e = .returned (.tuple #[]) ∧ u' = .returning ∧ w = w' := by
  refine callsD_of_wpS Tryd.func32 rfl fun c₀ cs hu => ?_
  apply wpS_seq
  apply wpS_region
  simp [wpOpsS, go_sem, recoverD, hu, Tryd.ntmps32, Exit.thenS]
  rw [show #[Value.pointer (some p)] ++ (Array.replicate 11 undef).setIfInBounds 3 Value.nilIface = #[.pointer (some p), undef, undef, undef, .nilIface, undef, undef, undef, undef, undef, undef, undef] from rfl]
  refine wpS_of_wp ?_
  go_wp2
  cases c₀
  simp_all [bodyPostS, results, Tryd.results32]

set_option maxRecDepth 20000 in
set_option maxHeartbeats 800000 in
theorem catch_gave (b : Nat) (x e : Int) (older : List PanicEntry) (w : World) (hc : w.cell? ⟨b, 0, none⟩ = some (.int .i64 x)) (hz : w.frozen? ⟨b, 0, none⟩ = false) (hp : b < w.heap.size) :
    CallsD Tryd.prog 32 #[.pointer (some ⟨b, 0, none⟩)] (.panicking ({ v := .iface 65 (.agg #[.int .i64 e]), recovered := false } :: older)) w fun r u' w' =>
      r = .returned (.tuple #[]) ∧ u' = .panicking ({ v := .iface 65 (.agg #[.int .i64 e]), recovered := true } :: older) ∧ w' = (w.setCell ⟨b, 0, none⟩ (.int .i64 e)).alloc (.cells #[.int .i64 e] 65) := by
  have hta : ∀ w : World, (Instr.typeAssert (.iface 65 (.agg #[.int .i64 e])) 20 65 true).run Tryd.prog w = .ok (.tuple #[.agg #[.int .i64 e], .bool true]) w := fun _ => by kernel_rfl
  refine callsD_of_wpS Tryd.func32 rfl fun c₀ cs hu => ?_
  apply wpS_seq
  apply wpS_region
  simp [wpOpsS, go_sem, recoverD, hu, Tryd.ntmps32, Exit.thenS]
  rw [show #[Value.pointer (some ⟨b, 0, none⟩)] ++ (Array.replicate 11 undef).setIfInBounds 3 (.iface 65 (.agg #[.int .i64 e])) = #[.pointer (some ⟨b, 0, none⟩), undef, undef, undef, .iface 65 (.agg #[.int .i64 e]), undef, undef, undef, undef, undef, undef, undef] from rfl]
  refine wpS_of_wp ?_
  go_wp2
  cases c₀
  simp_all [bodyPostS, results, Tryd.results32]

/-- a store into a block that is neither the reader's nor of bytes -/
theorem Rd.setOther {w : World} {B : Nat} {s : ByteArray} {p : Nat} {tv : Value} {t : List UInt8} {M : Int} {fx : Option Addr} (h : Rd w B s p tv t M fx) {g T : Nat} {cs : Array Value} (hr : w.heap[g]? = some (.cells cs T (0, 0))) (h58 : T ≠ 63) (h5 : T ≠ 5) (i : Nat) (u : Value) : Rd (w.setCell ⟨g, i, none⟩ u) B s p tv t M fx := by
  have hne : B ≠ g := fun e => by
    have h1 := h.blk
    rw [e, hr] at h1
    injection h1 with h1; injection h1 with _ h1 _; exact h58 h1
  refine ⟨?_, ?_, h.sml, h.fit, h.len, h.rom⟩
  · rw [Below.heap_setCell _ _ _ _ (by exact hne)]; exact h.blk
  · obtain ⟨h1, h2⟩ := h.own
    refine ⟨h1, ?_⟩
    rcases h2 with h2 | ⟨gg, cap, cur, hv, hg, hh, r⟩
    · exact Or.inl h2
    · refine Or.inr ⟨gg, cap, cur, hv, hg, ?_, r⟩
      rw [Below.heap_setCell _ _ _ _ (fun e => by
        have e' : gg = g := e
        rw [e', hr] at hh
        injection hh with hh; injection hh with _ hh _; exact h5 hh)]
      exact hh

/-- what the asking why comes to: the error, and the reader as it stood -/
def Wyd (B : Nat) (s : ByteArray) (M : Int) (r : Tx) (w : World) (e : Ending) (w' : World) : Prop :=
  match r with
  | .ok p t => e = .returned (.int .i64 0) ∧ (∃ tv fx, Rd w' B s p tv t M fx) ∧ Kp 63 B w w'
  | .no k t => e = .returned (.int .i64 k) ∧ (∃ p' tv fx, Rd w' B s p' tv t M fx) ∧ Kp 63 B w w'

set_option maxRecDepth 20000 in
set_option maxHeartbeats 800000 in
theorem why_any (w : World) (B : Nat) (s : ByteArray) (M : Int) (tv : Value) (h : Rd w B s 0 tv [] M none) (hg : Glo w) (hB : 1 < B) :
    Calls Tryd.prog 13 #[.func (.func 14) #[.pointer (some ⟨B, 0, none⟩)] #[]] w fun e w' => Wyd B s M (inF s M) w e w' := by
  have hmf : ∀ (fn : Fn) (first cap : Array Value) (w : World), (Instr.makeFunc fn first cap).run Tryd.prog w = .ok (.func fn first cap) w := fun _ _ _ _ => rfl
  have hk0 : Kp 63 B w (w.alloc (.cells #[.int .i64 0] 22)) := (Kp.refl _ _ _).alloc (Nat.le_of_lt h.lt) _
  have HBL := hid (blocks_any (w.alloc (.cells #[.int .i64 0] 22)) B s M none tv (h.alloc _) (.inl rfl) (hg.kp hk0 hB) hB)
  have hcell : (w.alloc (.cells #[.int .i64 0] 22)).heap[w.heap.size]? = some (.cells #[.int .i64 0] 22 (0, 0)) := heap_alloc_new w _
  have HCE := hid hcell
  have HK0 := hid hk0
  have HLT := hid h.lt
  clear h hg hcell hk0
  obtain ⟨r, hr⟩ : ∃ r, r = inF s M := ⟨_, rfl⟩
  rw [← hr] at HBL ⊢
  clear hr
  cases r with
  | ok p t =>
    go_enter_defers Tryd.func13, Tryd.ntmps13
    go_wp2_with (go_at_call 14; refine HBL.out.mono ?_; rintro e w1 ⟨rfl, ⟨tv1, fx1, hr1, hf1⟩, hk1⟩; have hce := hk1.cells HCE.out (by decide) (by decide); have c0 : w1.cell? ⟨w.heap.size, 0, none⟩ = some (.int .i64 0) := (by rw [cell_of_row w1 w.heap.size 0 _ 22 (0, 0) hce]; rfl); have f0 : w1.frozen? ⟨w.heap.size, 0, none⟩ = false := (by simp [World.frozen?, hce]); have HE := hid hce; clear hce)
    have c1 : (w1.setCell ⟨w.heap.size, 0, none⟩ (.int .i64 0)).cell? ⟨w.heap.size, 0, none⟩ = some (.int .i64 0) := by rw [cell_of_row _ w.heap.size 0 _ 22 (0, 0) (blk_set HE.out 0 _)]; rfl
    have HX : Hid (Wyd B s M (.ok p t) w (.returned (.int .i64 0)) (w1.setCell ⟨w.heap.size, 0, none⟩ (.int .i64 0))) := ⟨rfl, ⟨tv1, fx1, hr1.setOther HE.out (by decide) (by decide) 0 _⟩, (HK0.out.trans hk1).setNew (Nat.le_of_lt HLT.out) (Nat.le_refl _) _⟩
    refine leaves_cons (f := 32) (args := #[.pointer (some ⟨w.heap.size, 0, none⟩)]) (by simp) (by simp [go_sem]) ?_
    refine (catch_idle ⟨w.heap.size, 0, none⟩ _).mono ?_
    rintro e u' w'' ⟨rfl, rfl, rfl⟩
    simp [Leaves, settle, results, Tryd.results13, go_sem, c1]
    exact HX.out
  | no k t =>
    go_enter_defers Tryd.func13, Tryd.ntmps13
    go_wp2_with (go_at_call 14; refine HBL.out.mono ?_; rintro e w1 ⟨rfl, ⟨p1, tv1, fx1, hr1⟩, hk1⟩; have hce := hk1.cells HCE.out (by decide) (by decide); have c0 : w1.cell? ⟨w.heap.size, 0, none⟩ = some (.int .i64 0) := (by rw [cell_of_row w1 w.heap.size 0 _ 22 (0, 0) hce]; rfl); have f0 : w1.frozen? ⟨w.heap.size, 0, none⟩ = false := (by simp [World.frozen?, hce]); have HE := hid hce; clear hce)
    have hsz : w.heap.size < w1.heap.size := (Array.getElem?_eq_some_iff.1 HE.out).1
    have hz2 : (w1.setCell ⟨w.heap.size, 0, none⟩ (.int .i64 k)).heap.size = w1.heap.size := by simp [World.setCell]
    have c1 : ((w1.setCell ⟨w.heap.size, 0, none⟩ (.int .i64 k)).alloc (.cells #[.int .i64 k] 65)).cell? ⟨w.heap.size, 0, none⟩ = some (.int .i64 k) := by
      rw [World.cell?_of_block (w := w1.setCell ⟨w.heap.size, 0, none⟩ (.int .i64 k)) (Below.heap_alloc _ _ _ (by rw [hz2]; exact hsz)), cell_of_row _ w.heap.size 0 _ 22 (0, 0) (blk_set HE.out 0 _)]; rfl
    have hkk : Kp 63 B w (w1.setCell ⟨w.heap.size, 0, none⟩ (.int .i64 k)) := (HK0.out.trans hk1).setNew (Nat.le_of_lt HLT.out) (Nat.le_refl _) _
    have HX : Hid (Wyd B s M (.no k t) w (.returned (.int .i64 k)) ((w1.setCell ⟨w.heap.size, 0, none⟩ (.int .i64 k)).alloc (.cells #[.int .i64 k] 65))) := ⟨rfl, ⟨p1, tv1, fx1, (hr1.setOther HE.out (by decide) (by decide) 0 _).alloc _⟩, hkk.alloc (by rw [hz2]; have := HLT.out; omega) _⟩
    refine leaves_cons (f := 32) (args := #[.pointer (some ⟨w.heap.size, 0, none⟩)]) (by simp) (by simp [go_sem]) ?_
    refine (catch_gave w.heap.size 0 k [] _ c0 f0 hsz).mono ?_
    rintro e u' w'' ⟨rfl, rfl, rfl⟩
    simp [Leaves, settle, results, Tryd.results13, go_sem, c1]
    exact HX.out
end Go.Proofs.YthdmjmnkhlpnnaaDoor
