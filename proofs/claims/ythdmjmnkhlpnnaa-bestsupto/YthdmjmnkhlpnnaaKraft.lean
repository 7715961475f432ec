/-
  Package-merge: how often each symbol is chosen. Plain mathematics.
-/
import Derived.Test.YthdmjmnkhlpnnaaMerge
namespace Go.Proofs.Ythdmjmnkhlpnnaa

def sym (x : Ab) : Int := x.2.headD 0
def occ (T : List Ab) (s : Int) : Nat := (T.flatMap Prod.snd).count s
theorem occ_perm {T U : List Ab} (h : (T.flatMap Prod.snd).Perm (U.flatMap Prod.snd)) (s : Int) : occ T s = occ U s := h.count_eq s
theorem occ_append (T U : List Ab) (s : Int) : occ (T ++ U) s = occ T s + occ U s := by simp [occ, List.count_append]

def tot (f : Ab → Nat) : List Ab → Nat
  | [] => 0
  | x :: r => f x + tot f r
theorem tot_perm {f : Ab → Nat} {l r : List Ab} (h : l.Perm r) : tot f l = tot f r := by
  induction h with
  | nil => rfl
  | cons x _ ih => simp [tot, ih]
  | swap x y l => simp [tot]; omega
  | trans _ _ ih1 ih2 => exact ih1.trans ih2
theorem tot_append (f : Ab → Nat) (l r : List Ab) : tot f (l ++ r) = tot f l + tot f r := by
  induction l with
  | nil => simp [tot]
  | cons x l ih => simp [tot, ih]; omega
theorem tot_congr {f g : Ab → Nat} {l : List Ab} (h : ∀ x ∈ l, f x = g x) : tot f l = tot g l := by
  induction l with
  | nil => rfl
  | cons x l ih => simp [tot, h x (by simp), ih (fun y hy => h y (by simp [hy]))]
theorem tot_add (f : Ab → Nat) (c : Nat) (l : List Ab) : tot (fun x => c + f x) l = c * l.length + tot f l := by
  induction l with
  | nil => simp [tot]
  | cons x l ih => simp [tot, ih, Nat.mul_succ]; omega
theorem tot_zero (l : List Ab) : tot (fun _ => 0) l = 0 := by
  induction l with
  | nil => rfl
  | cons x l ih => simp [tot, ih]

/-- the singles: one symbol each, all different, with its count -/
structure Sg (S : List Ab) (cw : Int → Int) : Prop where
  one : ∀ x ∈ S, x.2 = [sym x]
  nodup : (S.map sym).Nodup
  wt : ∀ x ∈ S, x.1 = cw (sym x)
  pos : ∀ x ∈ S, 0 < x.1

def isum : List Int → Int
  | [] => 0
  | x :: r => x + isum r
theorem isum_append (l r : List Int) : isum (l ++ r) = isum l + isum r := by
  induction l with
  | nil => simp [isum]
  | cons x l ih => simp [isum, ih]; omega

theorem lev_wt {S : List Ab} {cw : Int → Int} (hS : Sg S cw) : ∀ {k : Nat} {Q : List Ab}, Lev S k Q → ∀ x ∈ Q, x.1 = isum (x.2.map cw) ∧ 2 ≤ x.2.length ∧ ∀ s ∈ x.2, 0 < cw s
  | 0, Q, h, x, hx => by have e : Q = [] := h; rw [e] at hx; cases hx
  | k + 1, Q, h, x, hx => by
    obtain ⟨P, La, h1, h2, _, rfl⟩ := h
    obtain ⟨a, b, ha, hb, rfl⟩ := pairsOf_mem hx
    have one : ∀ c ∈ La, c.1 = isum (c.2.map cw) ∧ 1 ≤ c.2.length ∧ ∀ s ∈ c.2, 0 < cw s := fun c hc => by
      rcases List.mem_append.1 (h2.subset hc) with h | h
      · have e := hS.one c h
        have w := hS.wt c h
        have p := hS.pos c h
        rw [e]
        refine ⟨by simp [isum]; exact w, by simp, fun s hs => ?_⟩
        simp at hs
        rw [hs, ← w]; exact p
      · obtain ⟨q1, q2, q3⟩ := lev_wt hS h1 c h
        exact ⟨q1, by omega, q3⟩
    obtain ⟨a1, a2, a3⟩ := one a ha
    obtain ⟨b1, b2, b3⟩ := one b hb
    refine ⟨by simp only [List.map_append, isum_append]; omega, by simp; omega, fun s hs => ?_⟩
    rcases List.mem_append.1 hs with h | h
    · exact a3 s h
    · exact b3 s h
theorem isum_mem {cw : Int → Int} : ∀ {l : List Int}, (∀ s ∈ l, 0 < cw s) → 0 ≤ isum (l.map cw) ∧ ∀ s ∈ l, cw s ≤ isum (l.map cw) ∧ (2 ≤ l.length → cw s < isum (l.map cw))
  | [], _ => ⟨by simp [isum], fun s hs => by cases hs⟩
  | x :: r, h => by
    obtain ⟨i1, i2⟩ := isum_mem (l := r) (fun s hs => h s (by simp [hs]))
    have hx := h x (by simp)
    refine ⟨by simp [isum]; omega, fun s hs => ?_⟩
    rcases List.mem_cons.1 hs with rfl | hs
    · refine ⟨by simp [isum]; omega, fun h2 => ?_⟩
      cases r with
      | nil => simp at h2
      | cons y r =>
        have hy := h y (by simp)
        have := (i2 y (by simp)).1
        simp [isum] at this ⊢
        omega
    · have := (i2 s hs).1
      exact ⟨by simp [isum]; omega, fun _ => by simp [isum]; omega⟩

theorem occ_singles {A : List Ab} (h1 : ∀ x ∈ A, x.2 = [sym x]) (s : Int) : occ A s = (A.map sym).count s := by
  unfold occ
  congr 1
  induction A with
  | nil => rfl
  | cons x r ih =>
    rw [List.flatMap_cons, h1 x (by simp), ih (fun y hy => h1 y (by simp [hy]))]
    rfl

theorem kraft {S : List Ab} {cw : Int → Int} (hS : Sg S cw) : ∀ {k : Nat} {Q T R : List Ab}, Lev S k Q → Down T Q R →
    (∀ x ∈ S, occ T (sym x) ≤ k) ∧ (∀ x ∈ S, ∀ y ∈ S, x.1 < y.1 → occ T (sym y) ≤ occ T (sym x)) ∧ tot (fun x => 2 ^ k - 2 ^ (k - occ T (sym x))) S = 2 ^ k * T.length
  | 0, Q, T, R, h, d => by
    have e : Q = [] := h
    have e2 : T ++ R = [] := by have := d.1; rw [e] at this; exact List.Perm.eq_nil this
    simp at e2
    obtain ⟨rfl, rfl⟩ := e2
    have z : ∀ s, occ [] s = 0 := fun s => rfl
    refine ⟨fun x _ => by rw [z]; omega, fun x _ y _ _ => by rw [z, z]; omega, ?_⟩
    simp [z, tot_zero]
  | k + 1, Q, T, R, h, d => by
    obtain ⟨P, La, h1, h2, h3, rfl⟩ := h
    have hposP : ∀ x ∈ La, 0 < x.1 := fun x hx => by
      rcases List.mem_append.1 (h2.subset hx) with h | h
      · exact hS.pos x h
      · obtain ⟨q1, q2, q3⟩ := lev_wt hS h1 x h
        have hm := isum_mem q3
        cases hx2 : x.2 with
        | nil => rw [hx2] at q2; simp at q2
        | cons s r =>
          have hs : s ∈ x.2 := by rw [hx2]; simp
          have := (hm.2 s hs).1
          have := q3 s hs
          omega
    obtain ⟨I, J, dI, hIl, hIf, _⟩ := down_items h3 hposP d
    obtain ⟨A, B, C, D, s1, s2, s3, s4⟩ := split4 (dI.1.trans h2)
    have dle : ∀ a ∈ A ++ C, ∀ b ∈ B ++ D, a.1 ≤ b.1 := fun a ha b hb => dI.2 a (s3.symm.subset ha) b (s4.symm.subset hb)
    have dC : Down C P D := ⟨s2, fun a ha b hb => dle a (by simp [ha]) b (by simp [hb])⟩
    obtain ⟨ih1, ih2, ih3⟩ := kraft hS h1 dC
    have hAS : ∀ x ∈ A, x ∈ S := fun x hx => s1.subset (by simp [hx])
    have hBS : ∀ x ∈ B, x ∈ S := fun x hx => s1.subset (by simp [hx])
    have hnd : ((A ++ B).map sym).Nodup := ((s1.map sym).nodup_iff).2 hS.nodup
    rw [List.map_append, List.nodup_append] at hnd
    have hocc : ∀ s, occ T s = occ A s + occ C s := fun s => by
      rw [← occ_perm hIf s, occ_perm (s3.flatMap_right Prod.snd) s, occ_append]
    have hA1 : ∀ x ∈ A, occ A (sym x) = 1 := fun x hx => by
      rw [occ_singles (fun y hy => hS.one y (hAS y hy)), hnd.1.count, if_pos (List.mem_map.2 ⟨x, hx, rfl⟩)]
    have hB0 : ∀ x ∈ B, occ A (sym x) = 0 := fun x hx => by
      rw [occ_singles (fun y hy => hS.one y (hAS y hy)), hnd.1.count, if_neg]
      intro hm
      exact hnd.2.2 _ hm _ (List.mem_map.2 ⟨x, hx, rfl⟩) rfl
    have hC0 : ∀ x ∈ B, occ C (sym x) = 0 := fun x hx => by
      apply List.count_eq_zero.2
      intro hm
      obtain ⟨c, hc, hs⟩ := List.mem_flatMap.1 hm
      obtain ⟨q1, q2, q3⟩ := lev_wt hS h1 c (s2.subset (by simp [hc]))
      have hlt := ((isum_mem q3).2 _ hs).2 q2
      rw [← q1, ← hS.wt x (hBS x hx)] at hlt
      have := dle c (by simp [hc]) x (by simp [hx])
      omega
    have part : ∀ x ∈ S, x ∈ A ∨ x ∈ B := fun x hx => List.mem_append.1 (s1.symm.subset hx)
    refine ⟨fun x hx => ?_, fun x hx y hy hxy => ?_, ?_⟩
    · rw [hocc]
      rcases part x hx with h | h
      · rw [hA1 x h]; have := ih1 x hx; omega
      · rw [hB0 x h, hC0 x h]; omega
    · rw [hocc, hocc]
      rcases part y hy with hy' | hy'
      · rcases part x hx with hx' | hx'
        · rw [hA1 x hx', hA1 y hy']; have := ih2 x hx y hy hxy; omega
        · have := dle y (by simp [hy']) x (by simp [hx']); omega
      · rw [hB0 y hy', hC0 y hy']; omega
    · have e1 : tot (fun x => 2 ^ (k + 1) - 2 ^ (k + 1 - occ T (sym x))) S = tot (fun x => 2 ^ (k + 1) - 2 ^ (k + 1 - occ T (sym x))) A + tot (fun x => 2 ^ (k + 1) - 2 ^ (k + 1 - occ T (sym x))) B := by
        rw [← tot_append]; exact tot_perm s1.symm
      have e2 : tot (fun x => 2 ^ k - 2 ^ (k - occ C (sym x))) S = tot (fun x => 2 ^ k - 2 ^ (k - occ C (sym x))) A + tot (fun x => 2 ^ k - 2 ^ (k - occ C (sym x))) B := by
        rw [← tot_append]; exact tot_perm s1.symm
      have e3 : tot (fun x => 2 ^ (k + 1) - 2 ^ (k + 1 - occ T (sym x))) B = 0 := by
        rw [tot_congr (g := fun _ => 0) (fun x hx => by rw [hocc, hB0 x hx, hC0 x hx]; simp), tot_zero]
      have e4 : tot (fun x => 2 ^ k - 2 ^ (k - occ C (sym x))) B = 0 := by
        rw [tot_congr (g := fun _ => 0) (fun x hx => by rw [hC0 x hx]; simp), tot_zero]
      have e5 : tot (fun x => 2 ^ (k + 1) - 2 ^ (k + 1 - occ T (sym x))) A = tot (fun x => 2 ^ k + (2 ^ k - 2 ^ (k - occ C (sym x)))) A := by
        refine tot_congr fun x hx => ?_
        rw [hocc, hA1 x hx]
        have h5 := ih1 x (hAS x hx)
        have h6 : k + 1 - (1 + occ C (sym x)) = k - occ C (sym x) := by omega
        have h7 : 2 ^ (k - occ C (sym x)) ≤ 2 ^ k := Nat.pow_le_pow_right (by omega) (by omega)
        have h8 : 2 ^ (k + 1) = 2 ^ k * 2 := Nat.pow_succ ..
        rw [h6]
        omega
      rw [tot_add] at e5
      have e6 : I.length = A.length + C.length := by have := s3.length_eq; simpa using this
      rw [e1, e3, e5]
      have e7 : tot (fun x => 2 ^ k - 2 ^ (k - occ C (sym x))) A = 2 ^ k * C.length := by omega
      rw [e7, ← Nat.mul_add, Nat.add_zero, ← e6, hIl, Nat.pow_succ, Nat.mul_assoc]
end Go.Proofs.Ythdmjmnkhlpnnaa
