/-
  Package-merge, level by level: plain mathematics.
-/
import Derived.Test.YthdmjmnkhlpnnaaPair
namespace Go.Proofs.Ythdmjmnkhlpnnaa

abbrev Ab := Int × List Int
def SrtA (l : List Ab) : Prop := l.Pairwise fun a b => a.1 ≤ b.1
/-- the pairs of level k, whatever the order of equal weights -/
def Lev (S : List Ab) : Nat → List Ab → Prop
  | 0, Q => Q = []
  | k + 1, Q => ∃ P La, Lev S k P ∧ La.Perm (S ++ P) ∧ SrtA La ∧ Q = pairsOf La

theorem pairsOf_length : ∀ l : List Ab, (pairsOf l).length = l.length / 2
  | [] => rfl
  | [_] => by simp [pairsOf]
  | _ :: _ :: r => by simp [pairsOf, pairsOf_length r]; omega
theorem pairsOf_mem : ∀ {l : List Ab} {x : Ab}, x ∈ pairsOf l → ∃ a b, a ∈ l ∧ b ∈ l ∧ x = (a.1 + b.1, a.2 ++ b.2)
  | [], x, h => by simp [pairsOf] at h
  | [_], x, h => by simp [pairsOf] at h
  | a :: b :: r, x, h => by
    simp only [pairsOf, List.mem_cons] at h
    rcases h with rfl | h
    · exact ⟨a, b, by simp, by simp, rfl⟩
    · obtain ⟨c, d, hc, hd, e⟩ := pairsOf_mem h
      exact ⟨c, d, by simp [hc], by simp [hd], e⟩

theorem lev_le {S : List Ab} : ∀ {k : Nat} {Q : List Ab}, Lev S k Q → Q.length ≤ S.length
  | 0, Q, h => by have e : Q = [] := h; rw [e]; simp
  | k + 1, Q, h => by
    obtain ⟨P, La, h1, h2, _, rfl⟩ := h
    have := lev_le h1
    have e := h2.length_eq
    rw [pairsOf_length]
    simp at e
    omega
/-- how many are wanting -/
theorem lev_many {S : List Ab} (most : Nat) (hn : S.length ≤ 2 ^ most) : ∀ {k : Nat} {Q : List Ab}, k ≤ most → Lev S k Q → S.length ≤ Q.length + 2 ^ (most - k)
  | 0, Q, _, h => by simpa using (by omega : S.length ≤ Q.length + 2 ^ most)
  | k + 1, Q, hk, h => by
    obtain ⟨P, La, h1, h2, _, rfl⟩ := h
    have ih := lev_many most hn (by omega) h1
    have e := h2.length_eq
    have e2 : most - k = (most - (k + 1)) + 1 := by omega
    rw [e2, Nat.pow_succ] at ih
    rw [pairsOf_length]
    simp at e
    omega
/-- every parcel's weight and how many symbols it has -/
theorem lev_bound {S : List Ab} {M : Nat} (hS : ∀ x ∈ S, 0 < x.1 ∧ x.1 ≤ M ∧ x.2.length = 1) : ∀ {k : Nat} {Q : List Ab}, Lev S k Q → ∀ x ∈ S ++ Q, 0 < x.1 ∧ x.1 ≤ M * 2 ^ k ∧ 0 < x.2.length ∧ x.2.length ≤ 2 ^ k
  | 0, Q, h, x, hx => by
    have e : Q = [] := h
    rw [e, List.append_nil] at hx
    have := hS x hx
    simp
    omega
  | k + 1, Q, h, x, hx => by
    obtain ⟨P, La, h1, h2, _, rfl⟩ := h
    have ih := lev_bound hS h1
    have hp := Nat.two_pow_pos k
    rcases List.mem_append.1 hx with hx | hx
    · have h3 := ih x (List.mem_append.2 (.inl hx))
      have e3 : M * 2 ^ (k + 1) = M * 2 ^ k * 2 := by rw [Nat.pow_succ, Nat.mul_assoc]
      have e4 : 2 ^ (k + 1) = 2 ^ k * 2 := Nat.pow_succ ..
      push_cast at *
      have e5 : (M : Int) * 2 ^ (k + 1) = M * 2 ^ k * 2 := by rw [Int.pow_succ, Int.mul_assoc]
      refine ⟨h3.1, by omega, h3.2.2.1, by omega⟩
    · obtain ⟨a, b, ha, hb, rfl⟩ := pairsOf_mem hx
      have h3 := ih a (h2.subset ha)
      have h4 := ih b (h2.subset hb)
      have e4 : 2 ^ (k + 1) = 2 ^ k * 2 := Nat.pow_succ ..
      push_cast at *
      have e5 : (M : Int) * 2 ^ (k + 1) = M * 2 ^ k * 2 := by rw [Int.pow_succ, Int.mul_assoc]
      refine ⟨by omega, by omega, by simp; omega, by simp; omega⟩
end Go.Proofs.Ythdmjmnkhlpnnaa
