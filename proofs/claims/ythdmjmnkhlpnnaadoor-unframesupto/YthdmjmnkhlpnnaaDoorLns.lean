/-
  The lengths of letters and steps: the program's lengthToldBy and Reader.lengths.
-/
import Derived.Test.YthdmjmnkhlpnnaaDoorOrd
import Derived.Test.YthdmjmnkhlpnnaaDoorRef
namespace Go.Proofs.YthdmjmnkhlpnnaaDoor
open Go.RowKit

set_option maxHeartbeats 800000 in
theorem told_ok (w : World) (v : Int) (ao : Option Addr) (c : Nat) (l : List Int) (hs : Seg w ao l) (h0 : 0 ≤ v) (h18 : v ≤ 18) (hl : l.length ≤ 1000) (hne : ¬ (v = 16 ∧ l.length = 0)) :
    Calls Tryd.prog 105 #[.int .i64 v, .slice ao l.length c] w fun e w' => e = .returned (.int .i64 (tol v l)) ∧ w = w' := by
  by_cases h1 : v < 16
  · have e : tol v l = v := by unfold tol; rw [if_pos h1]
    rw [e]
    clear e hs
    go_enter Tryd.func105, Tryd.ntmps105
    go_wp2
    go_ret
    exact ⟨rfl, rfl⟩
  · by_cases h2 : 16 < v
    · have e : tol v l = 0 := by unfold tol; rw [if_neg h1, if_pos h2]
      rw [e]
      clear e hs
      go_enter Tryd.func105, Tryd.ntmps105
      go_wp2
      go_ret
      exact ⟨rfl, rfl⟩
    · obtain rfl : v = 16 := by omega
      have hpos : 0 < l.length := by omega
      have e : tol 16 l = l.getD (l.length - 1) 0 := by unfold tol; rw [if_neg (by omega), if_neg (by omega)]
      obtain ⟨b, off, rfl, hc⟩ := hs hpos
      have hcell := hc (l.length - 1) (by omega)
      obtain ⟨z, hz⟩ : ∃ z, z = l.getD (l.length - 1) 0 := ⟨_, rfl⟩
      rw [e, ← hz]
      rw [← hz] at hcell
      obtain ⟨N, hN⟩ : ∃ N, N = l.length := ⟨_, rfl⟩
      rw [← hN] at hcell hl hpos ⊢
      have hb : ((N : Int) == 0) = false := beq_eq_false_iff_ne.2 (by omega)
      have i0 : (0 : Int) ≤ (N : Int) - 1 := by omega
      have i1 : (N : Int) - 1 < (N : Int) := by omega
      have i2 : ((N : Int) - 1).toNat = N - 1 := by omega
      clear e hz hN hc hne h1 h2
      go_enter Tryd.func105, Tryd.ntmps105
      go_wp2
      go_ret
      exact ⟨rfl, rfl⟩

set_option maxHeartbeats 800000 in
theorem told_no (w : World) (ao : Option Addr) (c : Nat) :
    Calls Tryd.prog 105 #[.int .i64 16, .slice ao 0 c] w fun e w' => e = gone 3 ∧ w = w' := by
  go_enter Tryd.func105, Tryd.ntmps105
  go_wp2_with (go_at_call 54; refine (give_any _ _).mono ?_; rintro e w' ⟨rfl, rfl⟩)
  exact ⟨rfl, rfl, rfl⟩

theorem tol_ok {v : Int} {l : List Int} (h0 : 0 ≤ v) (hl : l.any nl = false) : 0 ≤ tol v l ∧ tol v l ≤ 15 := by
  unfold tol
  split
  · omega
  · split
    · omega
    · exact ok_getD hl _
theorem any_rep (l : List Int) (k : Nat) (z : Int) (hl : l.any nl = false) (hz : 0 ≤ z ∧ z ≤ 15) : (l ++ List.replicate k z).any nl = false := by
  rw [List.any_append, hl, Bool.false_or, List.any_eq_false]
  intro x hx
  rw [(List.mem_replicate.1 hx).2]
  unfold nl
  simp
  omega
theorem lnF_ok {zc : List Int} {s : ByteArray} {N f : Nat} {l l' : List Int} {p q : Nat} (h : lnF zc s N f l p = .ok l' q) (hl : l.length ≤ N) (hf : N < f + l.length) (ha : l.any nl = false) (hp : p ≤ 8 * s.size) : l'.length = N ∧ l'.any nl = false ∧ q ≤ 8 * s.size ∧ p ≤ q := by
  induction f generalizing l p with
  | zero => omega
  | succ f ih =>
    rw [lnF] at h
    split at h
    · split at h
      · simp at h
      · rename_i v r hs
        have hv := sym_ok hs
        split at h
        · simp at h
        · split at h
          · split at h
            · simp at h
            · have ht := tms_le v.toNat
              have := ih h (by simp; omega) (by simp; omega) (any_rep _ _ _ ha (tol_ok hv.2.2.1 ha)) (by omega)
              exact ⟨this.1, this.2.1, this.2.2.1, by omega⟩
          · simp at h
    · injection h with h1 h2
      subst h1 h2
      exact ⟨by omega, ha, hp, Nat.le_refl _⟩
theorem lnF_no {zc : List Int} {s : ByteArray} {N f : Nat} {l : List Int} {p e : Nat} (h : lnF zc s N f l p = .no e) : e ≠ 0 := by
  induction f generalizing l p with
  | zero => simp [lnF] at h
  | succ f ih =>
    rw [lnF] at h
    split at h
    · split at h
      · rename_i e' hs
        have := symF_no _ _ _ _ _ _ _ hs
        injection h with h
        omega
      · split at h
        · injection h with h; omega
        · split at h
          · split at h
            · injection h with h; omega
            · exact ih h
          · injection h with h; omega
    · simp at h
end Go.Proofs.YthdmjmnkhlpnnaaDoor
