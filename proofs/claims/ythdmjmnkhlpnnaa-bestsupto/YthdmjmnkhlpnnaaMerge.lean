/-
  Package-merge: what is chosen is a complete code, in order. Plain mathematics.
-/
import Derived.Test.YthdmjmnkhlpnnaaLevels
namespace Go.Proofs.Ythdmjmnkhlpnnaa

theorem mem_perm {α : Type} {x : α} {l : List α} (h : x ∈ l) : ∃ r, l.Perm (x :: r) := by
  obtain ⟨s, t, rfl⟩ := List.append_of_mem h
  exact ⟨s ++ t, List.perm_middle⟩

/-- the lighter part of some parcels -/
def Down (T U R : List Ab) : Prop := (T ++ R).Perm U ∧ ∀ a ∈ T, ∀ b ∈ R, a.1 ≤ b.1

theorem down_items : ∀ {La T R : List Ab}, SrtA La → (∀ x ∈ La, 0 < x.1) → Down T (pairsOf La) R →
    ∃ I J, Down I La J ∧ I.length = 2 * T.length ∧ (I.flatMap Prod.snd).Perm (T.flatMap Prod.snd) ∧ ∀ x ∈ I, ∃ x' ∈ La, ∃ t ∈ T, t.1 = x.1 + x'.1
  | [], T, R, _, _, h => by
    have e : T ++ R = [] := List.Perm.eq_nil h.1
    simp at e
    obtain ⟨rfl, rfl⟩ := e
    exact ⟨[], [], ⟨List.Perm.refl _, by simp⟩, rfl, List.Perm.refl _, by simp⟩
  | [c], T, R, _, _, h => by
    have e : T ++ R = [] := List.Perm.eq_nil h.1
    simp at e
    obtain ⟨rfl, rfl⟩ := e
    exact ⟨[], [c], ⟨List.Perm.refl _, by simp⟩, rfl, List.Perm.refl _, by simp⟩
  | a :: b :: r, T, R, hs, hpos, h => by
    have hs1 := List.pairwise_cons.1 hs
    have hs2 := List.pairwise_cons.1 hs1.2
    have hr : SrtA r := hs2.2
    have hpr : ∀ x ∈ r, 0 < x.1 := fun x hx => hpos x (by simp [hx])
    obtain ⟨hp, hle⟩ := h
    simp only [pairsOf] at hp
    have hmem : (a.1 + b.1, a.2 ++ b.2) ∈ T ++ R := hp.symm.subset (by simp)
    by_cases hT : (a.1 + b.1, a.2 ++ b.2) ∈ T
    · obtain ⟨T0, hT0⟩ := mem_perm hT
      have hp0 : (T0 ++ R).Perm (pairsOf r) := List.Perm.cons_inv (((hT0.append_right R).symm.trans hp))
      obtain ⟨I, J, d, hl, hf, hx⟩ := down_items hr hpr ⟨hp0, fun x hx y hy => hle x (hT0.symm.subset (by simp [hx])) y hy⟩
      refine ⟨a :: b :: I, J, ⟨?_, ?_⟩, ?_, ?_, ?_⟩
      · exact List.Perm.cons _ (List.Perm.cons _ d.1)
      · intro x hx y hy
        have hyr : y ∈ r := d.1.subset (by simp [hy])
        rcases List.mem_cons.1 hx with rfl | hx
        · exact hs1.1 y (by simp [hyr])
        · rcases List.mem_cons.1 hx with rfl | hx
          · exact hs2.1 y hyr
          · exact d.2 x hx y hy
      · have := hT0.length_eq; simp at this ⊢; omega
      · have h1 : (T.flatMap Prod.snd).Perm ((((a.1 + b.1, a.2 ++ b.2) : Ab) :: T0).flatMap Prod.snd) := hT0.flatMap_right _
        refine List.Perm.trans ?_ h1.symm
        simp only [List.flatMap_cons, List.append_assoc]
        exact List.Perm.append_left _ (List.Perm.append_left _ hf)
      · intro x hx'
        rcases List.mem_cons.1 hx' with rfl | hx'
        · exact ⟨b, by simp, _, hT, rfl⟩
        · rcases List.mem_cons.1 hx' with rfl | hx'
          · exact ⟨a, by simp, _, hT, by simp; omega⟩
          · obtain ⟨y, hy, t, ht, e⟩ := hx x hx'
            exact ⟨y, by simp [hy], t, hT0.symm.subset (by simp [ht]), e⟩
    · have hR : (a.1 + b.1, a.2 ++ b.2) ∈ R := by
        rcases List.mem_append.1 hmem with h | h
        · exact absurd h hT
        · exact h
      obtain ⟨R0, hR0⟩ := mem_perm hR
      have hp0 : (T ++ R0).Perm (pairsOf r) := List.Perm.cons_inv ((List.perm_middle.symm.trans ((hR0.append_left T).symm)).trans hp)
      obtain ⟨I, J, d, hl, hf, hx⟩ := down_items hr hpr ⟨hp0, fun x hx y hy => hle x hx y (hR0.symm.subset (by simp [hy]))⟩
      refine ⟨I, a :: b :: J, ⟨?_, ?_⟩, hl, hf, ?_⟩
      · exact (List.perm_middle.trans (List.Perm.cons _ List.perm_middle)).trans (List.Perm.cons _ (List.Perm.cons _ d.1))
      · intro x hxI y hy
        obtain ⟨x', hx', t, ht, e⟩ := hx x hxI
        have h1 := hle t ht _ hR
        have h2 := hs2.1 x' hx'
        have h3 := hs1.1 b (by simp)
        simp at h1
        rcases List.mem_cons.1 hy with rfl | hy
        · omega
        · rcases List.mem_cons.1 hy with rfl | hy
          · omega
          · exact d.2 x hxI y hy
      · intro x hxI
        obtain ⟨y, hy, t, ht, e⟩ := hx x hxI
        exact ⟨y, by simp [hy], t, ht, e⟩

/-- two ways to part the same -/
theorem split4 : ∀ {S P I J : List Ab}, (I ++ J).Perm (S ++ P) → ∃ A B C D, (A ++ B).Perm S ∧ (C ++ D).Perm P ∧ I.Perm (A ++ C) ∧ J.Perm (B ++ D)
  | [], P, I, J, h => ⟨[], [], I, J, List.Perm.refl _, by simpa using h, by simp, by simp⟩
  | s :: S, P, I, J, h => by
    have hm : s ∈ I ++ J := h.symm.subset (by simp)
    rcases List.mem_append.1 hm with hi | hj
    · obtain ⟨I0, hI⟩ := mem_perm hi
      have h0 : (I0 ++ J).Perm (S ++ P) := List.Perm.cons_inv ((hI.append_right J).symm.trans h)
      obtain ⟨A, B, C, D, h1, h2, h3, h4⟩ := split4 h0
      exact ⟨s :: A, B, C, D, List.Perm.cons _ h1, h2, hI.trans (List.Perm.cons _ h3), h4⟩
    · obtain ⟨J0, hJ⟩ := mem_perm hj
      have h0 : (I ++ J0).Perm (S ++ P) := List.Perm.cons_inv ((List.perm_middle.symm.trans (hJ.append_left I).symm).trans h)
      obtain ⟨A, B, C, D, h1, h2, h3, h4⟩ := split4 h0
      exact ⟨A, s :: B, C, D, List.perm_middle.trans (List.Perm.cons _ h1), h2, h3, hJ.trans (List.Perm.cons _ h4)⟩

/-- the pairs of a sorted list are sorted -/
theorem pairs_ge : ∀ {l : List Ab} {c : Int}, (∀ x ∈ l, c ≤ x.1) → ∀ y ∈ pairsOf l, c + c ≤ y.1
  | [], c, _, y, hy => by simp [pairsOf] at hy
  | [_], c, _, y, hy => by simp [pairsOf] at hy
  | a :: b :: r, c, h, y, hy => by
    simp only [pairsOf, List.mem_cons] at hy
    rcases hy with rfl | hy
    · have h1 := h a (by simp); have h2 := h b (by simp); simp; omega
    · exact pairs_ge (fun x hx => h x (by simp [hx])) y hy
theorem pairs_srt : ∀ {l : List Ab}, SrtA l → SrtA (pairsOf l)
  | [], _ => List.Pairwise.nil
  | [_], _ => List.Pairwise.nil
  | a :: b :: r, h => by
    have h1 := List.pairwise_cons.1 h
    have h2 := List.pairwise_cons.1 h1.2
    simp only [pairsOf]
    refine List.pairwise_cons.2 ⟨fun y hy => ?_, pairs_srt h2.2⟩
    have h3 := pairs_ge h2.1 y hy
    have h4 := h1.1 b (by simp)
    simp
    omega
theorem lev_srt {S Q : List Ab} : ∀ {k : Nat}, Lev S k Q → SrtA Q
  | 0, h => by have e : Q = [] := h; rw [e]; exact List.Pairwise.nil
  | k + 1, h => by obtain ⟨P, La, _, _, h3, rfl⟩ := h; exact pairs_srt h3
theorem down_take {l : List Ab} (h : SrtA l) (t : Nat) : Down (l.take t) l (l.drop t) := by
  refine ⟨by rw [List.take_append_drop], fun a ha b hb => ?_⟩
  have h1 : SrtA (l.take t ++ l.drop t) := by rw [List.take_append_drop]; exact h
  exact (List.pairwise_append.1 h1).2.2 a ha b hb
end Go.Proofs.Ythdmjmnkhlpnnaa
