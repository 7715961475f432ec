/-
  The order of a heap: plain mathematics on lists of parcels.
-/
import Derived.Test.YthdmjmnkhlpnnaaHeapm
namespace Go.Proofs.Ythdmjmnkhlpnnaa

/-- the weight of the thing at a place -/
def wtAt (ps : List Pc) (i : Nat) : Int := (ps.getD i Pc.zero).wt

/-- two things change places -/
def swp (ps : List Pc) (i j : Nat) : List Pc := (ps.set i (ps.getD j Pc.zero)).set j (ps.getD i Pc.zero)
theorem swp_length (ps : List Pc) (i j : Nat) : (swp ps i j).length = ps.length := by simp [swp]
theorem swp_at (ps : List Pc) (i j k : Nat) (hi : i < ps.length) (hj : j < ps.length) : wtAt (swp ps i j) k = if k = j then wtAt ps i else if k = i then wtAt ps j else wtAt ps k := by
  unfold swp wtAt
  by_cases h1 : k = j
  · subst h1; simp [hj]
  · rw [if_neg h1]
    by_cases h2 : k = i
    · subst h2; simp [hi, Ne.symm h1]
    · simp [Ne.symm h1, Ne.symm h2, h2]
theorem swp_perm (ps : List Pc) (i j : Nat) (hi : i < ps.length) (hj : j < ps.length) : (swp ps i j).Perm ps := by
  have h := Array.swap_perm (xs := ps.toArray) (i := i) (j := j) (by simpa using hi) (by simpa using hj)
  have e : (ps.toArray.swap i j (by simpa using hi) (by simpa using hj)).toList = swp ps i j := by
    simp [Array.swap, swp, hi, hj]
  have h2 := h.toList
  rw [e] at h2
  exact h2

/-- in order -/
def HO (ps : List Pc) : Prop := ∀ k, 0 < k → k < ps.length → wtAt ps ((k - 1) / 2) ≤ wtAt ps k
def UpInv (ps : List Pc) (a : Nat) : Prop :=
  (∀ k, 0 < k → k < ps.length → k ≠ a → wtAt ps ((k - 1) / 2) ≤ wtAt ps k) ∧ (∀ k, 0 < k → k < ps.length → (k - 1) / 2 = a → 0 < a → wtAt ps ((a - 1) / 2) ≤ wtAt ps k)
def DownInv (ps : List Pc) (a : Nat) : Prop :=
  (∀ k, 0 < k → k < ps.length → (k - 1) / 2 ≠ a → wtAt ps ((k - 1) / 2) ≤ wtAt ps k) ∧ (∀ k, 0 < k → k < ps.length → (k - 1) / 2 = a → 0 < a → wtAt ps ((a - 1) / 2) ≤ wtAt ps k)
/-- what firstChild answers -/
def FC (ps : List Pc) (i c : Nat) : Prop := (c = 2 * i + 1 ∨ c = 2 * i + 2) ∧ (2 * i + 1 < ps.length → c < ps.length ∧ ∀ j, (j = 2 * i + 1 ∨ j = 2 * i + 2) → j < ps.length → wtAt ps c ≤ wtAt ps j)

theorem up_step {ps : List Pc} {a : Nat} (h : UpInv ps a) (h0 : 0 < a) (ha : a < ps.length) (hl : wtAt ps a < wtAt ps ((a - 1) / 2)) : UpInv (swp ps a ((a - 1) / 2)) ((a - 1) / 2) := by
  obtain ⟨h1, h2⟩ := h
  have hp : (a - 1) / 2 < a := by omega
  have hpl : (a - 1) / 2 < ps.length := by omega
  generalize hpa : (a - 1) / 2 = p at *
  refine ⟨fun k k0 kl kp => ?_, fun k k0 kl kp pp => ?_⟩
  · rw [swp_length] at kl
    rw [swp_at ps a p _ ha hpl, swp_at ps a p k ha hpl, if_neg kp]
    by_cases ka : k = a
    · subst ka
      rw [hpa, if_pos rfl, if_pos rfl]; omega
    · rw [if_neg ka]
      have hk := h1 k k0 kl ka
      by_cases c1 : (k - 1) / 2 = p
      · rw [if_pos c1]; rw [c1] at hk; omega
      · rw [if_neg c1]
        by_cases c2 : (k - 1) / 2 = a
        · rw [if_pos c2]; exact h2 k k0 kl c2 h0
        · rw [if_neg c2]; exact hk
  · rw [swp_length] at kl
    have hgp := h1 p pp (by omega) (by omega)
    rw [swp_at ps a p _ ha hpl, swp_at ps a p k ha hpl, if_neg (show (p - 1) / 2 ≠ p by omega), if_neg (show (p - 1) / 2 ≠ a by omega), if_neg (show k ≠ p by omega)]
    by_cases ka : k = a
    · rw [if_pos ka]; exact hgp
    · rw [if_neg ka]
      have hk := h1 k k0 kl ka
      rw [kp] at hk
      omega
theorem up_end0 {ps : List Pc} (h : UpInv ps 0) : HO ps := fun k k0 kl => h.1 k k0 kl (by omega)
theorem up_end {ps : List Pc} {a : Nat} (h : UpInv ps a) (hl : ¬ wtAt ps a < wtAt ps ((a - 1) / 2)) : HO ps := fun k k0 kl => by
  by_cases ka : k = a
  · subst ka; omega
  · exact h.1 k k0 kl ka
theorem up_start {ps : List Pc} {p : Pc} (h : HO ps) : UpInv (ps ++ [p]) ps.length := by
  have e : ∀ k, k < ps.length → wtAt (ps ++ [p]) k = wtAt ps k := fun k hk => by simp [wtAt, hk, List.getElem?_append_left hk]
  refine ⟨fun k k0 kl ka => ?_, fun k k0 kl kp _ => ?_⟩
  · simp at kl
    rw [e k (by omega), e _ (by omega)]
    exact h k k0 (by omega)
  · simp at kl; omega

theorem down_step {ps : List Pc} {a c : Nat} (h : DownInv ps a) (hc : FC ps a c) (hcl : c < ps.length) (hl : wtAt ps c < wtAt ps a) : DownInv (swp ps a c) c := by
  obtain ⟨h1, h2⟩ := h
  obtain ⟨hc1, hc2⟩ := hc
  have ha : a < ps.length := by omega
  have hmin := (hc2 (by omega)).2
  have hpc : (c - 1) / 2 = a := by omega
  refine ⟨fun k k0 kl kp => ?_, fun k k0 kl kp cp => ?_⟩
  · rw [swp_length] at kl
    rw [swp_at ps a c _ ha hcl, swp_at ps a c k ha hcl, if_neg kp]
    by_cases kc : k = c
    · subst kc; rw [hpc, if_pos rfl, if_pos rfl]; omega
    · rw [if_neg kc]
      by_cases ka : k = a
      · subst ka
        rw [if_pos rfl, if_neg (show (k - 1) / 2 ≠ k by omega)]
        exact h2 c (by omega) hcl hpc k0
      · rw [if_neg ka]
        by_cases kpa : (k - 1) / 2 = a
        · rw [if_pos kpa]
          exact hmin k (by omega) kl
        · rw [if_neg kpa]; exact h1 k k0 kl kpa
  · rw [swp_length] at kl
    have hk := h1 k k0 kl (by omega)
    rw [kp] at hk
    rw [swp_at ps a c _ ha hcl, swp_at ps a c k ha hcl, hpc, if_neg (show a ≠ c by omega), if_pos rfl, if_neg (show k ≠ c by omega), if_neg (show k ≠ a by omega)]
    exact hk
theorem down_none {ps : List Pc} {a c : Nat} (h : DownInv ps a) (hc : FC ps a c) (hcl : ¬ c < ps.length) : HO ps := fun k k0 kl => by
  have hn : ¬ 2 * a + 1 < ps.length := fun hh => hcl (hc.2 hh).1
  exact h.1 k k0 kl (by omega)
theorem down_end {ps : List Pc} {a c : Nat} (h : DownInv ps a) (hc : FC ps a c) (hcl : c < ps.length) (hl : ¬ wtAt ps c < wtAt ps a) : HO ps := fun k k0 kl => by
  by_cases kp : (k - 1) / 2 = a
  · rw [kp]
    have hc1 := hc.1
    have := (hc.2 (by omega)).2 k (by omega) kl
    omega
  · exact h.1 k k0 kl kp
/-- the first is the lightest -/
theorem ho_min {ps : List Pc} (h : HO ps) (k : Nat) (hk : k < ps.length) : wtAt ps 0 ≤ wtAt ps k := by
  induction k using Nat.strongRecOn with
  | ind k ih =>
    by_cases k0 : k = 0
    · subst k0; exact Int.le_refl _
    · have h1 := ih ((k - 1) / 2) (by omega) (by omega)
      have h2 := h k (by omega) hk
      omega
/-- the last in the first's place -/
theorem down_start {p q : Pc} {ps : List Pc} (h : HO (p :: ps)) : DownInv (q :: ps) 0 := by
  have e : ∀ k, 0 < k → wtAt (q :: ps) k = wtAt (p :: ps) k := fun k hk => by
    obtain ⟨k', rfl⟩ : ∃ k', k = k' + 1 := ⟨k - 1, by omega⟩
    rfl
  refine ⟨fun k k0 kl kp => ?_, fun k k0 kl kp hh => by omega⟩
  rw [e k k0, e _ (by omega)]
  exact h k k0 (by simpa using kl)
theorem ho_take {ps : List Pc} (h : HO ps) (n : Nat) : HO (ps.take n) := fun k k0 kl => by
  have e : ∀ j, j < n → wtAt (ps.take n) j = wtAt ps j := fun j hj => by simp [wtAt, hj]
  simp at kl
  rw [e k (by omega), e _ (by omega)]
  exact h k k0 (by omega)
end Go.Proofs.Ythdmjmnkhlpnnaa
