/-
  A block as it is: what it would have, and what writes it.
-/
import Derived.Test.YthdmjmnkhlpnnaaDoorWrb
import Derived.Test.YthdmjmnkhlpnnaaDoorFirst
namespace Go.Proofs.YthdmjmnkhlpnnaaDoor
open Go.RowKit

theorem start_asis (w : World) (s : ByteArray) :
    (∀ n cs, ((((w.alloc (.cells #[.string s] 9)).alloc (.cells #[.int .i64 0, .nilFunc] 100)).drewN n).setRow (w.heap.size + 1) cs).heap[w.heap.size]? = some (.cells #[.string s] 9 (0, 0))) ∧
    (∀ n, (((w.alloc (.cells #[.string s] 9)).alloc (.cells #[.int .i64 0, .nilFunc] 100)).drewN n).heap[w.heap.size + 1]? = some (.cells #[.int .i64 0, .nilFunc] 100 (0, 0))) ∧
    (∀ n cs, ((((w.alloc (.cells #[.string s] 9)).alloc (.cells #[.int .i64 0, .nilFunc] 100)).drewN n).setRow (w.heap.size + 1) cs).heap[w.heap.size + 1]? = some (.cells cs 100 (0, 0))) ∧
    (∀ n cs, Below w.heap.size w ((((w.alloc (.cells #[.string s] 9)).alloc (.cells #[.int .i64 0, .nilFunc] 100)).drewN n).setRow (w.heap.size + 1) cs)) := by
  obtain ⟨o, ho⟩ : ∃ o : Obj, o = .cells #[.string s] 9 := ⟨_, rfl⟩
  obtain ⟨o2, ho2⟩ : ∃ o : Obj, o = .cells #[.int .i64 0, .nilFunc] 100 := ⟨_, rfl⟩
  rw [← ho, ← ho2]
  have s1 : (w.alloc o).heap.size = w.heap.size + 1 := by simp
  have b1 : Below w.heap.size w (w.alloc o) := (Below.refl _ _).alloc (Nat.le_refl _) o
  have b2 : Below (w.alloc o).heap.size (w.alloc o) ((w.alloc o).alloc o2) := (Below.refl _ _).alloc (Nat.le_refl _) o2
  have e1 := heap_alloc_new w o
  have e2 := heap_alloc_new (w.alloc o) o2
  rw [s1] at e2
  have e3 : ((w.alloc o).alloc o2).heap[w.heap.size]? = some o := by rw [b2.block _ (by omega), e1]
  refine ⟨fun n cs => ?_, fun n => e2, fun n cs => ?_, fun n cs => ?_⟩
  · rw [setRow_other _ _ _ _ (by omega)]
    exact e3
  · refine setRow_heap _ _ #[.int .i64 0, .nilFunc] _ _ _ ?_
    rw [← ho2]
    exact e2
  · have b3 : Below w.heap.size w (((w.alloc o).alloc o2).drewN n) := by
      have := b1.trans (b2.mono (by omega))
      exact ⟨this.os, this.tape, this.output, this.size, this.block⟩
    exact below_row b3 (by omega) _
set_option maxHeartbeats 800000 in
theorem asIs_any (w : World) (s : ByteArray) (c : Nat) (hc : c < 8) (hs : s.size ≤ 65535) :
    Calls Tryd.prog 60 #[.string s, .int .i64 c] w fun e w' => ∃ q, e = .returned (.agg #[.int .i64 (2 + lft (c + 2) + 32 + 8 * s.size : Nat), .func (.func 84) #[] #[.pointer (some ⟨q, 0, none⟩)]]) ∧ w.heap.size ≤ q ∧ w'.heap[q]? = some (.cells #[.string s] 9 (0, 0)) ∧ Below w.heap.size w w' := by
  have hmf : ∀ (fn : Fn) (first cap : Array Value) (w : World), (Instr.makeFunc fn first cap).run Tryd.prog w = .ok (.func fn first cap) w := fun _ _ _ _ => rfl
  have HL : Hid (∀ u : World, Calls Tryd.prog 67 #[.int .i64 ((c : Int) + 2)] u fun e w' => e = .returned (.int .i64 (lft (c + 2) : Nat)) ∧ w' = u) := fun u => (left_any u (c + 2) (by omega)).mono fun e w' ⟨h1, h2⟩ => ⟨by rw [h1]; rfl, h2.symm⟩
  obtain ⟨x, hx⟩ : ∃ x, x = lft (c + 2) := ⟨_, rfl⟩
  have hx8 : x < 8 := by rw [hx]; unfold lft; omega
  rw [← hx] at HL ⊢
  clear hx
  go_enter Tryd.func60, Tryd.ntmps60
  go_wp2
  go_quiet ((go_at_call 67; refine Calls.quiet_of_same (HL.out _)))
  obtain ⟨X, hX⟩ : ∃ X : Array Value, X = #[.int .i64 (2 + x + 32 + 8 * s.size : Nat), .func (.func 84) #[] #[.pointer (some ⟨w.heap.size, 0, none⟩)]] := ⟨_, rfl⟩
  have HX1 : Hid ((Tryd.prog.info? 100).map (·.size) = some X.size) := by show _ = _; rw [hX]; kernel_rfl
  have HX2 : Hid (X.all (·.oneCell') = true) := by show _ = _; rw [hX]; simp [Value.oneCell']
  have HX3 : Hid (#[Value.int .i64 0, Value.nilFunc].size = X.size) := by show _ = _; rw [hX]; rfl
  have HXV : Hid (Value.agg #[.int .i64 (2 + (x : Int) + 32 + 8 * (s.size : Int)), .func (.func 84) #[] #[.pointer (some ⟨w.heap.size, 0, none⟩)]] = .agg X) := by
    show _ = _
    rw [hX]
    congr 3
  have HS0 := hid (start_asis w s)
  go_wp2_with (refine wpList_store_row rfl 100 _ _ rfl (w.heap.size + 1) X rfl HXV.out 100 _ (by exact HS0.out.2.1 _) HX1.out HX3.out HX2.out ?_)
  have hR := HS0.out.2.2.1 nq X
  have hQ := HS0.out.1 nq X
  have hBe := HS0.out.2.2.2 nq X
  refine bodyPost_ret (v := .agg X) (results_cell_row Tryd.results60 _ _ (w.heap.size + 1) 100 X (0, 0) _ rfl hR Tryd.underlying100 rfl HX1.out) rfl ?_
  exact ⟨w.heap.size, by rw [hX], Nat.le_refl _, hQ, hBe⟩
end Go.Proofs.YthdmjmnkhlpnnaaDoor
