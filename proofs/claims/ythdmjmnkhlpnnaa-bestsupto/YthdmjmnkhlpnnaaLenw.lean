/-
  The walk of codes.Lengths.
-/
import Derived.Test.YthdmjmnkhlpnnaaLengths
namespace Go.Proofs.Ythdmjmnkhlpnnaa
open Go.RowKit

/-- the parcels that are chosen -/
def Chs (S : List Ab) (m : Nat) (C : List Ab) : Prop := (S.length < 2 ∧ C = S) ∨ (2 ≤ S.length ∧ ∃ Qf, Lev S m Qf ∧ C = Qf.take (S.length - 1))

theorem lev_syms {S : List Ab} : ∀ {k : Nat} {Q : List Ab}, Lev S k Q → ∀ x ∈ Q, ∀ s ∈ x.2, ∃ y ∈ S, s ∈ y.2
  | 0, Q, h, x, hx, s, hs => by have e : Q = [] := h; rw [e] at hx; cases hx
  | k + 1, Q, h, x, hx, s, hs => by
    obtain ⟨P, La, h1, h2, _, rfl⟩ := h
    obtain ⟨a, b, ha, hb, rfl⟩ := pairsOf_mem hx
    have one : ∀ c ∈ La, s ∈ c.2 → ∃ y ∈ S, s ∈ y.2 := fun c hc hsc => by
      rcases List.mem_append.1 (h2.subset hc) with h | h
      · exact ⟨c, h, hsc⟩
      · exact lev_syms h1 c h s hsc
    rcases List.mem_append.1 hs with h | h
    · exact one a ha h
    · exact one b hb h
theorem singAt_mem {x : Ab} : ∀ {i : Nat} {cs : List Int}, x ∈ singAt i cs → ∃ j, j < cs.length ∧ x = (cs.getD j 0, [((i + j : Nat) : Int)]) ∧ 0 < cs.getD j 0
  | _, [], h => by simp [singAt] at h
  | i, c :: r, h => by
    simp only [singAt] at h
    split at h
    · rcases List.mem_cons.1 h with rfl | h
      · exact ⟨0, by simp, by simp, by simpa⟩
      · obtain ⟨j, h1, h2, h3⟩ := singAt_mem h
        exact ⟨j + 1, by simpa using h1, by rw [h2]; simp; omega, by simpa using h3⟩
    · obtain ⟨j, h1, h2, h3⟩ := singAt_mem h
      exact ⟨j + 1, by simpa using h1, by rw [h2]; simp; omega, by simpa using h3⟩
theorem sing_mem {x : Ab} {cs : List Int} (h : x ∈ sing cs) : ∃ j : Nat, j < cs.length ∧ x = (cs.getD j 0, [(j : Int)]) ∧ 0 < cs.getD j 0 := by
  obtain ⟨j, h1, h2, h3⟩ := singAt_mem h
  exact ⟨j, h1, by simpa using h2, h3⟩
theorem nc_getD {zs : List Int} (h : zs.any nc = false) (k : Nat) : 0 ≤ zs.getD k 0 ∧ zs.getD k 0 ≤ 1000000000 := by
  by_cases hk : k < zs.length
  · have := List.any_eq_false.1 h (zs.getD k 0) (by simp [List.getD, hk])
    generalize zs.getD k 0 = z at *
    simp [nc] at this
    omega
  · simp [List.getD, List.getElem?_eq_none (Nat.le_of_not_lt hk)]
theorem sing_bound {cs : List Int} (h : cs.any nc = false) : ∀ x ∈ sing cs, 0 < x.1 ∧ x.1 ≤ (1000000000 : Nat) ∧ x.2.length = 1 := fun x hx => by
  obtain ⟨j, _, e, h0⟩ := sing_mem hx
  have := nc_getD h j
  rw [e]
  exact ⟨h0, by simpa using this.2, rfl⟩
theorem chs_syms {cs : List Int} {m : Nat} {C : List Ab} (h : Chs (sing cs) m C) : ∀ x ∈ C, ∀ s ∈ x.2, ∃ j : Nat, j < cs.length ∧ s = (j : Int) := by
  have one : ∀ y ∈ sing cs, ∀ s ∈ y.2, ∃ j : Nat, j < cs.length ∧ s = (j : Int) := fun y hy s hs => by
    obtain ⟨j, hj, e, _⟩ := sing_mem hy
    rw [e] at hs
    simp at hs
    exact ⟨j, hj, hs⟩
  intro x hx s hs
  rcases h with ⟨_, e⟩ | ⟨_, Qf, hl, e⟩
  · rw [e] at hx; exact one x hx s hs
  · rw [e] at hx
    obtain ⟨y, hy, hsy⟩ := lev_syms hl x (List.mem_of_mem_take hx) s hs
    exact one y hy s hsy
theorem chs_len {S : List Ab} {m : Nat} {C : List Ab} (h : Chs S m C) : C.length ≤ S.length := by
  rcases h with ⟨_, e⟩ | ⟨_, Qf, _, e⟩
  · rw [e]; exact Nat.le_refl _
  · rw [e]; simp; omega
theorem flat_bound {B : Nat} : ∀ (C : List Ab), (∀ x ∈ C, x.2.length ≤ B) → (C.flatMap Prod.snd).length ≤ C.length * B
  | [], _ => by simp
  | x :: r, h => by
    have h1 := h x (by simp)
    have h2 := flat_bound r (fun y hy => h y (by simp [hy]))
    rw [List.flatMap_cons, List.length_append, List.length_cons, Nat.add_mul]
    omega
theorem chs_sum {cs : List Int} {m : Nat} {C : List Ab} (hc : cs.any nc = false) (h : Chs (sing cs) m C) (hm : m ≤ 15) (h320 : (sing cs).length ≤ 320) : (C.flatMap Prod.snd).length ≤ 10485760 := by
  have hp : 2 ^ m ≤ 2 ^ 15 := Nat.pow_le_pow_right (by omega) hm
  have hb : ∀ x ∈ C, x.2.length ≤ 32768 := fun x hx => by
    rcases h with ⟨_, e⟩ | ⟨_, Qf, hl, e⟩
    · rw [e] at hx; have := (sing_bound hc x hx).2.2; omega
    · rw [e] at hx
      have := (lev_bound (sing_bound hc) hl x (List.mem_append.2 (.inr (List.mem_of_mem_take hx)))).2.2.2
      omega
  have h1 := flat_bound C hb
  have h2 := chs_len h
  have h3 : C.length * 32768 ≤ 320 * 32768 := Nat.mul_le_mul_right _ (by omega)
  omega

set_option maxHeartbeats 400000 in
theorem chosen_few {w : World} {v : Value} {S : List Pc} (hv : Pars w v S) (m : Int) (h2 : S.length < 2) :
    Calls Try.prog 33 #[v, .int .i64 m] w fun e w' => e = .returned v ∧ w = w' := by
  obtain ⟨ao, c, rfl, _, _⟩ := hv
  go_enter Try.func33, Try.ntmps33
  go_wp2
  go_ret
  exact ⟨rfl, rfl⟩

theorem Pars.set {w : World} {v : Value} {ps : List Pc} {g : Nat} {l : List Int} (h : Pars w v ps) (hr : Row w g l) (j : Nat) (x : Value) : Pars (w.setCell ⟨g, j, none⟩ x) v ps := by
  obtain ⟨ao, c, e, hc, h⟩ := h
  refine ⟨ao, c, e, hc, fun h0 => ?_⟩
  obtain ⟨g', cur, e1, hg, ht⟩ := h h0
  have hne : g' ≠ g := fun e2 => by
    subst e2
    have hr' : w.heap[g']? = some (.cells (nums l) 3 (0, 0)) := hr
    rw [hg] at hr'
    injection hr' with hr'
    injection hr' with _ h2
    cases h2
  exact ⟨g', cur, e1, by rw [Below.heap_setCell _ _ _ _ hne]; exact hg, ht⟩
theorem PcOk.set {w : World} {p : Pc} (h : PcOk w p) {g : Nat} (hn : ∀ a, p.ao = some a → a.block ≠ g) (j : Nat) (x : Value) : PcOk (w.setCell ⟨g, j, none⟩ x) p := by
  obtain ⟨g', cur, e, hg, hc, h0⟩ := h
  exact ⟨g', cur, e, by rw [Below.heap_setCell _ _ _ _ (hn _ e)]; exact hg, hc, h0⟩

set_option maxHeartbeats 800000 in
theorem lengths_number (ao : Option Addr) (c : Nat) (cs : List Int) (m : Int) (w : World) (hs : Seg w ao cs) (hl : cs.length ≤ maxLen) (hbad : 320 < cs.length ∨ cs.any nc = true ∨ m < 1 ∨ 15 < m) :
    Calls Try.prog 24 #[.slice ao cs.length c, .int .i64 m] w fun e w' => e = .returned (.tuple #[.slice none 0 0, .int .i64 9]) ∧ w = w' := by
  by_cases h1 : 320 < cs.length
  · clear hbad
    unfold maxLen at hl
    go_enter Try.func24, Try.ntmps24
    go_wp2
    go_ret2
    exact ⟨rfl, rfl⟩
  · by_cases h2 : cs.any nc = true
    · clear hbad
      go_enter Try.func24, Try.ntmps24
      go_wp2_with (go_at_call 30; refine (containsc_any _ _ _ _ hs hl).mono ?_; rintro e w' ⟨rfl, rfl⟩)
      go_ret2
      exact ⟨rfl, rfl⟩
    · have h2' : cs.any nc = false := by simpa using h2
      clear h2
      by_cases h3 : m < 1
      · clear hbad
        go_enter Try.func24, Try.ntmps24
        go_wp2_with (go_at_call 30; refine (containsc_any _ _ _ _ hs hl).mono ?_; rintro e w' ⟨rfl, rfl⟩)
        go_ret2
        exact ⟨rfl, rfl⟩
      · have h4 : 15 < m := by
          rcases hbad with h | h | h | h
          · exact absurd h h1
          · rw [h2'] at h; cases h
          · exact absurd h h3
          · exact h
        clear hbad
        go_enter Try.func24, Try.ntmps24
        go_wp2_with (go_at_call 30; refine (containsc_any _ _ _ _ hs hl).mono ?_; rintro e w' ⟨rfl, rfl⟩)
        go_ret2
        exact ⟨rfl, rfl⟩
end Go.Proofs.Ythdmjmnkhlpnnaa
