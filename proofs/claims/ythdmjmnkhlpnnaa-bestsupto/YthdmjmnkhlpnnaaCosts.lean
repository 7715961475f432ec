/-
  What a chosen code costs; a greater limit never costs more. Plain mathematics.
-/
import Derived.Test.YthdmjmnkhlpnnaaLens
namespace Go.Proofs.Ythdmjmnkhlpnnaa

def psum (f : Nat → Int) : Nat → Int
  | 0 => 0
  | k + 1 => psum f k + f k
theorem psum_congr {f g : Nat → Int} {n : Nat} (h : ∀ i, i < n → f i = g i) : psum f n = psum g n := by
  induction n with
  | zero => rfl
  | succ n ih => simp only [psum]; rw [ih (fun i hi => h i (by omega)), h n (by omega)]
theorem psum_add (f g : Nat → Int) (n : Nat) : psum (fun i => f i + g i) n = psum f n + psum g n := by
  induction n with
  | zero => rfl
  | succ n ih => simp only [psum, ih]; omega
theorem psum_zero (n : Nat) : psum (fun _ => 0) n = 0 := by
  induction n with
  | zero => rfl
  | succ n ih => simp [psum, ih]
theorem psum_one (c : Nat → Int) (j : Nat) : ∀ (n : Nat), psum (fun i => if i = j then c i else 0) n = if j < n then c j else 0
  | 0 => by simp [psum]
  | n + 1 => by
    simp only [psum, psum_one c j n]
    by_cases h1 : n = j
    · subst h1; simp
    · rw [if_neg h1]
      by_cases h2 : j < n
      · rw [if_pos h2, if_pos (by omega)]; omega
      · rw [if_neg h2, if_neg (by omega)]; omega
theorem cost_count (cs : List Int) : ∀ (ys : List Int), (∀ s ∈ ys, ∃ j : Nat, j < cs.length ∧ s = (j : Int)) → psum (fun i => cs.getD i 0 * ((ys.count (i : Int) : Nat) : Int)) cs.length = isum (ys.map (cwOf cs))
  | [], _ => by simp [isum, psum_zero]
  | y :: r, h => by
    have ih := cost_count cs r (fun s hs => h s (by simp [hs]))
    obtain ⟨j, hj, rfl⟩ := h y (by simp)
    have e : ∀ i, i < cs.length → cs.getD i 0 * ((((j : Int) :: r).count (i : Int) : Nat) : Int) = cs.getD i 0 * ((r.count (i : Int) : Nat) : Int) + (if i = j then cs.getD i 0 else 0) := fun i _ => by
      rw [List.count_cons]
      by_cases h1 : i = j
      · subst h1; simp [Int.mul_add]
      · have : ¬ (j : Int) = (i : Int) := by omega
        simp [h1, this]
    rw [psum_congr e, psum_add, ih, psum_one, if_pos hj]
    simp [isum, cwOf]
    omega
theorem isum_flat {cw : Int → Int} : ∀ {C : List Ab}, (∀ x ∈ C, x.1 = isum (x.2.map cw)) → isum (C.map Prod.fst) = isum ((C.flatMap Prod.snd).map cw)
  | [], _ => rfl
  | x :: r, h => by
    have ih := isum_flat (C := r) (fun y hy => h y (by simp [hy]))
    rw [List.flatMap_cons, List.map_append, isum_append, ← ih, ← h x (by simp)]
    rfl
theorem chs_cost {cs : List Int} {m : Nat} {C : List Ab} (h : Chs (sing cs) m C) : psum (fun i => cs.getD i 0 * ((occ C (i : Int) : Nat) : Int)) cs.length = isum (C.map Prod.fst) := by
  have h1 := cost_count cs (C.flatMap Prod.snd) (fun s hs => by
    obtain ⟨x, hx, hsx⟩ := List.mem_flatMap.1 hs
    exact chs_syms h x hx s hsx)
  refine Eq.trans h1 (isum_flat ?_).symm
  have hS := sing_sg cs
  have one : ∀ x ∈ sing cs, x.1 = isum (x.2.map (cwOf cs)) := fun x hx => by
    rw [hS.one x hx]; simp [isum]; exact hS.wt x hx
  intro x hx
  rcases h with ⟨_, e⟩ | ⟨_, Qf, hl, e⟩
  · rw [e] at hx; exact one x hx
  · rw [e] at hx; exact (lev_wt hS hl x (List.mem_of_mem_take hx)).1

/-- lighter, place by place -/
def Dom : List Ab → List Ab → Prop
  | [], _ => True
  | a :: A, b :: B => b.1 ≤ a.1 ∧ Dom A B
  | _ :: _, [] => False
def cntLe (t : Int) : List Ab → Nat
  | [] => 0
  | x :: r => (if x.1 ≤ t then 1 else 0) + cntLe t r
theorem cntLe_perm {t : Int} {l r : List Ab} (h : l.Perm r) : cntLe t l = cntLe t r := by
  induction h with
  | nil => rfl
  | cons x _ ih => simp [cntLe, ih]
  | swap x y l => simp only [cntLe]; omega
  | trans _ _ ih1 ih2 => exact ih1.trans ih2
theorem cntLe_append (t : Int) (l r : List Ab) : cntLe t (l ++ r) = cntLe t l + cntLe t r := by
  induction l with
  | nil => simp [cntLe]
  | cons x l ih => simp only [List.cons_append, cntLe, ih]; omega
theorem cntLe_none {t : Int} : ∀ {l : List Ab}, (∀ x ∈ l, t < x.1) → cntLe t l = 0
  | [], _ => rfl
  | x :: r, h => by
    have h1 := h x (by simp)
    have h2 := cntLe_none (l := r) (fun y hy => h y (by simp [hy]))
    simp only [cntLe, h2]
    rw [if_neg (by omega)]
theorem dom_cnt (t : Int) : ∀ {A B : List Ab}, Dom A B → cntLe t A ≤ cntLe t B
  | [], _, _ => Nat.zero_le _
  | a :: A, b :: B, h => by
    have ih := dom_cnt t h.2
    have h1 := h.1
    simp only [cntLe]
    split
    · rw [if_pos (by omega)]; omega
    · omega
  | _ :: _, [], h => h.elim
theorem cnt_dom : ∀ {A B : List Ab}, SrtA A → SrtA B → (∀ t, cntLe t A ≤ cntLe t B) → Dom A B
  | [], _, _, _, _ => trivial
  | a :: A, [], _, _, h => by have := h a.1; simp [cntLe] at this
  | a :: A, b :: B, hA, hB, h => by
    have hA1 := List.pairwise_cons.1 hA
    have hB1 := List.pairwise_cons.1 hB
    have hba : b.1 ≤ a.1 := by
      rcases Int.lt_or_le a.1 b.1 with hl | hl
      · have h1 := h a.1
        have h2 : cntLe a.1 (b :: B) = 0 := cntLe_none (fun x hx => by
          rcases List.mem_cons.1 hx with rfl | hx
          · exact hl
          · have := hB1.1 x hx; omega)
        rw [h2] at h1
        simp [cntLe] at h1
      · exact hl
    refine ⟨hba, cnt_dom hA1.2 hB1.2 fun t => ?_⟩
    rcases Int.lt_or_le t a.1 with hl | hl
    · rw [cntLe_none (fun x hx => by have := hA1.1 x hx; omega)]; omega
    · have h1 := h t
      simp only [cntLe] at h1
      rw [if_pos hl, if_pos (by omega)] at h1
      omega
theorem dom_pairs : ∀ {A B : List Ab}, Dom A B → Dom (pairsOf A) (pairsOf B)
  | [], _, _ => trivial
  | [_], _, _ => trivial
  | a :: a2 :: A, b :: b2 :: B, h => by
    have ih := dom_pairs h.2.2
    have h1 := h.1
    have h2 := h.2.1
    exact ⟨by simp; omega, ih⟩
  | a :: a2 :: A, [b], h => h.2.elim
  | a :: a2 :: A, [], h => h.elim
theorem lev_mono {S : List Ab} : ∀ {k : Nat} {Q Q' : List Ab}, Lev S k Q → Lev S (k + 1) Q' → Dom Q Q'
  | 0, Q, Q', h, _ => by have e : Q = [] := h; rw [e]; trivial
  | k + 1, Q, Q', h, h' => by
    obtain ⟨P, La, h1, h2, h3, rfl⟩ := h
    obtain ⟨P', La', h1', h2', h3', rfl⟩ := h'
    have ih := lev_mono h1 h1'
    refine dom_pairs (cnt_dom h3 h3' fun t => ?_)
    rw [cntLe_perm h2, cntLe_perm h2', cntLe_append, cntLe_append]
    have := dom_cnt t ih
    omega
theorem dom_sum : ∀ {A B : List Ab} (t : Nat), Dom A B → t ≤ A.length → isum ((B.take t).map Prod.fst) ≤ isum ((A.take t).map Prod.fst)
  | _, _, 0, _, _ => by simp
  | [], _, t + 1, _, h => by simp at h
  | a :: A, b :: B, t + 1, h, ht => by
    have ih := dom_sum t h.2 (by simpa using ht)
    have := h.1
    simp only [List.take_succ_cons, List.map_cons, isum]
    omega
  | _ :: _, [], _ + 1, h, _ => h.elim
theorem chs_mono {cs : List Int} {m : Nat} {C C' : List Ab} (hfew : (sing cs).length ≤ 2 ^ m) (h : Chs (sing cs) m C) (h' : Chs (sing cs) (m + 1) C') : isum (C'.map Prod.fst) ≤ isum (C.map Prod.fst) := by
  rcases h with ⟨hs, e⟩ | ⟨hs, Qf, hl, e⟩
  · rcases h' with ⟨_, e'⟩ | ⟨hs', _⟩
    · rw [e, e']; exact Int.le_refl _
    · omega
  · rcases h' with ⟨hs', _⟩ | ⟨_, Qf', hl', e'⟩
    · omega
    · have hlen := lev_many m hfew (Nat.le_refl _) hl
      simp at hlen
      rw [e, e']
      exact dom_sum _ (lev_mono hl hl') (by omega)
end Go.Proofs.Ythdmjmnkhlpnnaa
