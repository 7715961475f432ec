/-
  The least cost by lists of weights alone is the cost of the chosen code. Plain mathematics.
-/
import Derived.Test.YthdmjmnkhlpnnaaCosts
namespace Go.Proofs.Ythdmjmnkhlpnnaa

def SrtI (l : List Int) : Prop := l.Pairwise fun a b => a ≤ b
/-- two rising lists xs one -/
def mrg : List Int → List Int → List Int
  | [], ys => ys
  | a :: xs, [] => a :: xs
  | a :: xs, b :: ys => if a ≤ b then a :: mrg xs (b :: ys) else b :: mrg (a :: xs) ys
termination_by xs ys => xs.length + ys.length
theorem mrg_nil (xs : List Int) : mrg xs [] = xs := by
  cases xs <;> simp [mrg]
theorem mrg_perm : ∀ (xs ys : List Int), (mrg xs ys).Perm (xs ++ ys)
  | [], ys => by simp [mrg]
  | a :: xs, [] => by simp [mrg]
  | a :: xs, b :: ys => by
    rw [mrg]
    split
    · exact List.Perm.cons _ (mrg_perm xs (b :: ys))
    · exact (List.Perm.cons b (mrg_perm (a :: xs) ys)).trans List.perm_middle.symm
termination_by xs ys => xs.length + ys.length
theorem mrg_length (xs ys : List Int) : (mrg xs ys).length = xs.length + ys.length := by
  have := (mrg_perm xs ys).length_eq
  simpa using this
theorem mrg_srt : ∀ {xs ys : List Int}, SrtI xs → SrtI ys → SrtI (mrg xs ys)
  | [], ys, _, h => by rw [mrg]; exact h
  | a :: xs, [], h, _ => by rw [mrg]; exact h
  | a :: xs, b :: ys, h, h' => by
    obtain ⟨h1, h2⟩ := List.pairwise_cons.1 h
    obtain ⟨h1', h2'⟩ := List.pairwise_cons.1 h'
    rw [mrg]
    split
    · rename_i hab
      refine List.pairwise_cons.2 ⟨fun x hx => ?_, mrg_srt h2 h'⟩
      rcases List.mem_append.1 ((mrg_perm _ _).subset hx) with hx | hx
      · exact h1 x hx
      · rcases List.mem_cons.1 hx with rfl | hx
        · exact hab
        · have := h1' x hx; omega
    · rename_i hab
      refine List.pairwise_cons.2 ⟨fun x hx => ?_, mrg_srt h h2'⟩
      rcases List.mem_append.1 ((mrg_perm _ _).subset hx) with hx | hx
      · rcases List.mem_cons.1 hx with rfl | hx
        · omega
        · have := h1 x hx; omega
      · exact h1' x hx
termination_by xs ys => xs.length + ys.length
theorem srt_uniq : ∀ {xs ys : List Int}, SrtI xs → SrtI ys → xs.Perm ys → xs = ys
  | [], ys, _, _, h => (List.nil_perm.1 h).symm
  | a :: xs, [], _, _, h => by have := h.length_eq; simp at this
  | a :: xs, b :: ys, h, h', hp => by
    obtain ⟨h1, h2⟩ := List.pairwise_cons.1 h
    obtain ⟨h1', h2'⟩ := List.pairwise_cons.1 h'
    have hab : a = b := by
      have ha : a ∈ b :: ys := hp.subset (by simp)
      have hb : b ∈ a :: xs := hp.symm.subset (by simp)
      have x1 : b ≤ a := by
        rcases List.mem_cons.1 ha with e | e
        · omega
        · exact h1' a e
      have x2 : a ≤ b := by
        rcases List.mem_cons.1 hb with e | e
        · omega
        · exact h1 b e
      omega
    subst hab
    rw [srt_uniq h2 h2' (List.Perm.cons_inv hp)]

def pairsI : List Int → List Int
  | a :: b :: r => (a + b) :: pairsI r
  | _ => []
theorem pairsI_map : ∀ (l : List Ab), (pairsOf l).map Prod.fst = pairsI (l.map Prod.fst)
  | [] => rfl
  | [_] => rfl
  | a :: b :: r => by simp [pairsOf, pairsI, pairsI_map r]
theorem pairsI_length : ∀ (l : List Int), (pairsI l).length = l.length / 2
  | [] => rfl
  | [_] => by simp [pairsI]
  | _ :: _ :: r => by simp [pairsI, pairsI_length r]; omega
theorem pairsI_mem : ∀ {l : List Int} {x : Int}, x ∈ pairsI l → ∃ a b, a ∈ l ∧ b ∈ l ∧ x = a + b
  | [], x, h => by simp [pairsI] at h
  | [_], x, h => by simp [pairsI] at h
  | a :: b :: r, x, h => by
    simp only [pairsI, List.mem_cons] at h
    rcases h with rfl | h
    · exact ⟨a, b, by simp, by simp, rfl⟩
    · obtain ⟨c, d, hc, hd, e⟩ := pairsI_mem h
      exact ⟨c, d, by simp [hc], by simp [hd], e⟩
theorem pairsI_srt : ∀ {l : List Int}, SrtI l → SrtI (pairsI l)
  | [], _ => List.Pairwise.nil
  | [_], _ => List.Pairwise.nil
  | a :: b :: r, h => by
    obtain ⟨h1, h2⟩ := List.pairwise_cons.1 h
    obtain ⟨h3, h4⟩ := List.pairwise_cons.1 h2
    refine List.pairwise_cons.2 ⟨fun x hx => ?_, pairsI_srt h4⟩
    obtain ⟨c, d, hc, hd, rfl⟩ := pairsI_mem hx
    have := h1 c (by simp [hc])
    have := h3 d hd
    omega
/-- the list of weights of a level -/
def lvI (own : List Int) : Nat → List Int
  | 0 => []
  | k + 1 => mrg own (pairsI (lvI own k))
theorem lvI_one (own : List Int) : lvI own 1 = own := by
  show mrg own (pairsI []) = own
  exact mrg_nil own
theorem lvI_srt {own : List Int} (h : SrtI own) : ∀ k, SrtI (lvI own k)
  | 0 => List.Pairwise.nil
  | k + 1 => mrg_srt h (pairsI_srt (lvI_srt h k))
theorem lvI_le (own : List Int) : ∀ k, (lvI own k).length ≤ 2 * own.length
  | 0 => by simp [lvI]
  | k + 1 => by
    have := lvI_le own k
    rw [lvI, mrg_length, pairsI_length]
    omega
theorem lvI_bound {own : List Int} {M : Nat} (h : ∀ x ∈ own, 0 < x ∧ x ≤ M) : ∀ k, ∀ x ∈ lvI own k, 0 < x ∧ x ≤ (M : Int) * 2 ^ k
  | 0, x, hx => by simp [lvI] at hx
  | k + 1, x, hx => by
    have e5 : (M : Int) * 2 ^ (k + 1) = M * 2 ^ k * 2 := by rw [Int.pow_succ, Int.mul_assoc]
    have hp : (1 : Int) ≤ 2 ^ k := by
      have h1 : 1 ≤ 2 ^ k := Nat.one_le_two_pow
      have h2 : ((2 ^ k : Nat) : Int) = (2 : Int) ^ k := by simp
      rw [← h2]; omega
    have hm : (M : Int) ≤ M * 2 ^ k := by
      have := Int.mul_le_mul_of_nonneg_left hp (show (0 : Int) ≤ M by omega)
      omega
    rcases List.mem_append.1 ((mrg_perm _ _).subset hx) with hx | hx
    · have := h x hx; omega
    · obtain ⟨a, b, ha, hb, rfl⟩ := pairsI_mem hx
      have h1 := lvI_bound h k a ha
      have h2 := lvI_bound h k b hb
      omega
theorem lev_int {S : List Ab} {own : List Int} (hs : SrtI own) (hp : own.Perm (S.map Prod.fst)) : ∀ {k : Nat} {Q : List Ab}, Lev S k Q → Q.map Prod.fst = pairsI (lvI own k)
  | 0, Q, h => by have e : Q = [] := h; rw [e]; rfl
  | k + 1, Q, h => by
    obtain ⟨P, La, h1, h2, h3, rfl⟩ := h
    have ih := lev_int hs hp h1
    rw [pairsI_map]
    congr 1
    refine srt_uniq (List.pairwise_map.2 h3) (lvI_srt hs (k + 1)) ?_
    have e1 := h2.map Prod.fst
    rw [List.map_append, ih] at e1
    exact e1.trans ((List.Perm.append_right _ hp.symm).trans (mrg_perm _ _).symm)
theorem isum_perm {l r : List Int} (h : l.Perm r) : isum l = isum r := by
  induction h with
  | nil => rfl
  | cons x _ ih => simp [isum, ih]
  | swap x y l => simp [isum]; omega
  | trans _ _ ih1 ih2 => exact ih1.trans ih2
theorem isum_pairs : ∀ (l : List Int) (t : Nat), 2 * t ≤ l.length → isum ((pairsI l).take t) = isum (l.take (2 * t))
  | _, 0, _ => by simp [isum]
  | [], t + 1, h => by simp at h
  | [_], t + 1, h => by simp at h; omega
  | a :: b :: r, t + 1, h => by
    have ih := isum_pairs r t (by simp at h; omega)
    rw [show 2 * (t + 1) = 2 * t + 1 + 1 by omega]
    simp only [pairsI, List.take_succ_cons, isum, ih]
    omega
/-- the least cost, by lists of weights -/
def costI (own : List Int) (m : Nat) : Int := if own.length < 2 then isum own else isum ((lvI own m).take (2 * own.length - 2))
theorem cost_eq {cs own : List Int} {m : Nat} {C : List Ab} (hs : SrtI own) (hp : own.Perm ((sing cs).map Prod.fst)) (hfew : (sing cs).length ≤ 2 ^ m) (h : Chs (sing cs) m C) : isum (C.map Prod.fst) = costI own m := by
  have hl : own.length = (sing cs).length := by have := hp.length_eq; simpa using this
  unfold costI
  rcases h with ⟨h0, e⟩ | ⟨h0, Qf, hq, e⟩
  · rw [if_pos (by omega), e]
    exact isum_perm hp.symm
  · rw [if_neg (by omega), e, List.map_take, lev_int hs hp hq]
    have hm := lev_many m hfew (Nat.le_refl _) hq
    have e2 := congrArg List.length (lev_int hs hp hq)
    rw [List.length_map, pairsI_length] at e2
    simp at hm
    rw [isum_pairs _ _ (by omega), hl]
    congr 2
    omega
theorem lvI_enough {cs own : List Int} {m : Nat} {C : List Ab} (hs : SrtI own) (hp : own.Perm ((sing cs).map Prod.fst)) (hfew : (sing cs).length ≤ 2 ^ m) (h : Chs (sing cs) m C) (h2 : 2 ≤ own.length) : 2 * own.length - 2 ≤ (lvI own m).length := by
  have hl : own.length = (sing cs).length := by have := hp.length_eq; simpa using this
  rcases h with ⟨h0, e⟩ | ⟨h0, Qf, hq, e⟩
  · omega
  · have hm := lev_many m hfew (Nat.le_refl _) hq
    have e2 := congrArg List.length (lev_int hs hp hq)
    rw [List.length_map, pairsI_length] at e2
    simp at hm
    omega
end Go.Proofs.Ythdmjmnkhlpnnaa
