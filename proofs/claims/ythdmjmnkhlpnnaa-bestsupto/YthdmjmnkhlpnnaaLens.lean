/-
  The lengths that are chosen: a complete code, in order; what it costs; a greater limit never costs more. Plain mathematics.
-/
import Derived.Test.YthdmjmnkhlpnnaaKraft
import Derived.Test.YthdmjmnkhlpnnaaLenw
namespace Go.Proofs.Ythdmjmnkhlpnnaa

theorem singAt_ge : ∀ {i : Nat} {cs : List Int} {x : Ab}, x ∈ singAt i cs → ((i : Nat) : Int) ≤ sym x
  | i, cs, x, h => by
    obtain ⟨j, _, e, _⟩ := singAt_mem h
    rw [e]
    simp [sym]
    omega
theorem singAt_nodup : ∀ (i : Nat) (cs : List Int), ((singAt i cs).map sym).Nodup
  | _, [] => by simp [singAt]
  | i, c :: r => by
    simp only [singAt]
    split
    · rw [List.map_cons, List.nodup_cons]
      refine ⟨fun hm => ?_, singAt_nodup (i + 1) r⟩
      obtain ⟨x, hx, e⟩ := List.mem_map.1 hm
      have := singAt_ge hx
      rw [e] at this
      simp [sym] at this
      omega
    · exact singAt_nodup (i + 1) r
def cwOf (cs : List Int) (s : Int) : Int := cs.getD s.toNat 0
theorem sing_sg (cs : List Int) : Sg (sing cs) (cwOf cs) := by
  refine ⟨fun x hx => ?_, singAt_nodup 0 cs, fun x hx => ?_, fun x hx => ?_⟩
  · obtain ⟨j, _, e, _⟩ := sing_mem hx; rw [e]; rfl
  · obtain ⟨j, _, e, _⟩ := sing_mem hx; rw [e]; simp [cwOf, sym]
  · obtain ⟨j, _, e, h0⟩ := sing_mem hx; rw [e]; exact h0
theorem singAt_in : ∀ {i : Nat} {cs : List Int} {j : Nat}, j < cs.length → 0 < cs.getD j 0 → (cs.getD j 0, [((i + j : Nat) : Int)]) ∈ singAt i cs
  | _, [], j, h, _ => by simp at h
  | i, c :: r, 0, _, h0 => by
    simp only [singAt]
    rw [if_pos (by simpa using h0)]
    simp
  | i, c :: r, j + 1, h, h0 => by
    have := singAt_in (i := i + 1) (cs := r) (j := j) (by simpa using h) (by simpa using h0)
    simp only [singAt]
    have e : i + 1 + j = i + (j + 1) := by omega
    rw [e] at this
    split
    · exact List.mem_cons_of_mem _ (by simpa using this)
    · simpa using this
theorem sing_in {cs : List Int} {j : Nat} (h : j < cs.length) (h0 : 0 < cs.getD j 0) : (cs.getD j 0, [(j : Int)]) ∈ sing cs := by
  have := singAt_in (i := 0) h h0
  rw [Nat.zero_add] at this
  exact this

/-- each symbol's length, of a chosen code -/
structure Good (cs : List Int) (m : Nat) (l : Nat → Nat) : Prop where
  none : ∀ j, j < cs.length → cs.getD j 0 ≤ 0 → l j = 0
  some : ∀ j, j < cs.length → 0 < cs.getD j 0 → 1 ≤ l j ∧ l j ≤ m
  order : ∀ j k, j < cs.length → k < cs.length → 0 < cs.getD j 0 → cs.getD j 0 < cs.getD k 0 → l k ≤ l j
  whole : 2 ≤ (sing cs).length → tot (fun x => 2 ^ (m - l (sym x).toNat)) (sing cs) = 2 ^ m
  alone : (sing cs).length = 1 → ∀ j, j < cs.length → 0 < cs.getD j 0 → l j = 1

theorem tot_sub {f : Ab → Nat} {c : Nat} {l : List Ab} (h : ∀ x ∈ l, f x ≤ c) : tot (fun x => c - f x) l + tot f l = c * l.length := by
  induction l with
  | nil => simp [tot]
  | cons x r ih =>
    have := ih (fun y hy => h y (by simp [hy]))
    have := h x (by simp)
    simp only [tot, List.length_cons, Nat.mul_succ]
    omega
theorem tot_ge {f : Ab → Nat} {l : List Ab} (h : ∀ x ∈ l, 1 ≤ f x) : l.length ≤ tot f l := by
  induction l with
  | nil => simp
  | cons x r ih =>
    have := ih (fun y hy => h y (by simp [hy]))
    have := h x (by simp)
    simp only [tot, List.length_cons]
    omega

theorem chs_occ0 {cs : List Int} {m : Nat} {C : List Ab} (h : Chs (sing cs) m C) {j : Nat} (hj : cs.getD j 0 ≤ 0) : occ C (j : Int) = 0 := by
  apply List.count_eq_zero.2
  intro hm
  obtain ⟨c, hc, hs⟩ := List.mem_flatMap.1 hm
  have one : ∀ y ∈ sing cs, (j : Int) ∈ y.2 → False := fun y hy hs => by
    obtain ⟨i, _, e, h0⟩ := sing_mem hy
    rw [e] at hs
    simp at hs
    have hij : j = i := by omega
    subst hij
    omega
  rcases h with ⟨_, e⟩ | ⟨_, Qf, hl, e⟩
  · rw [e] at hc; exact one c hc hs
  · rw [e] at hc
    obtain ⟨y, hy, hsy⟩ := lev_syms hl c (List.mem_of_mem_take hc) _ hs
    exact one y hy hsy

theorem good_of {cs : List Int} {m : Nat} {C : List Ab} (h1 : 1 ≤ m) (hfew : (sing cs).length ≤ 2 ^ m) (h : Chs (sing cs) m C) : Good cs m fun j => occ C (j : Int) := by
  have hSg := sing_sg cs
  have hsym : ∀ x ∈ sing cs, (((sym x).toNat : Nat) : Int) = sym x := fun x hx => by
    obtain ⟨j, _, e, _⟩ := sing_mem hx
    rw [e]; simp [sym]
  have hx : ∀ j, j < cs.length → 0 < cs.getD j 0 → ∃ x ∈ sing cs, sym x = (j : Int) ∧ x.1 = cs.getD j 0 := fun j hj h0 => ⟨_, sing_in hj h0, rfl, rfl⟩
  have h0 : ∀ j, j < cs.length → cs.getD j 0 ≤ 0 → occ C (j : Int) = 0 := fun j _ hj => chs_occ0 h hj
  rcases h with ⟨hs, e⟩ | ⟨hs, Qf, hl, e⟩
  · have h1' : ∀ x ∈ sing cs, occ C (sym x) = 1 := fun x hx => by
      rw [e, occ_singles hSg.one, hSg.nodup.count, if_pos (List.mem_map.2 ⟨x, hx, rfl⟩)]
    refine ⟨h0, fun j hj hp => ?_, fun j k hj hk hp hlt => ?_, fun h2 => by omega, fun _ j hj hp => ?_⟩
    · obtain ⟨x, hx1, hx2, _⟩ := hx j hj hp
      have := h1' x hx1
      rw [hx2] at this
      rw [this]; omega
    · obtain ⟨x, hx1, hx2, _⟩ := hx j hj hp
      obtain ⟨y, hy1, hy2, _⟩ := hx k hk (by omega)
      have a := h1' x hx1
      have b := h1' y hy1
      rw [hx2] at a
      rw [hy2] at b
      rw [a, b]; omega
    · obtain ⟨x, hx1, hx2, _⟩ := hx j hj hp
      have := h1' x hx1
      rw [hx2] at this
      exact this
  · have hlen : C.length = (sing cs).length - 1 := by
      have := lev_many m hfew (Nat.le_refl _) hl
      simp at this
      rw [e]; simp; omega
    obtain ⟨k1, k2, k3⟩ := kraft hSg hl (down_take (lev_srt hl) ((sing cs).length - 1))
    rw [← e] at k1 k2 k3
    have hle : ∀ x ∈ sing cs, 2 ^ (m - occ C (sym x)) ≤ 2 ^ m := fun x hx => Nat.pow_le_pow_right (by omega) (by omega)
    have hsub := tot_sub (f := fun x => 2 ^ (m - occ C (sym x))) hle
    have hw : tot (fun x => 2 ^ (m - occ C (sym x))) (sing cs) = 2 ^ m := by
      rw [k3, hlen] at hsub
      have e2 : 2 ^ m * (sing cs).length = 2 ^ m * ((sing cs).length - 1) + 2 ^ m := by
        rw [← Nat.mul_succ]; congr 1; omega
      omega
    have hge : ∀ x ∈ sing cs, 1 ≤ occ C (sym x) := fun x hx => by
      rcases Nat.eq_zero_or_pos (occ C (sym x)) with hz | hz
      · exfalso
        obtain ⟨r, hr⟩ := mem_perm hx
        have e3 := tot_perm (f := fun x => 2 ^ (m - occ C (sym x))) hr
        have e4 := hr.length_eq
        have e5 := tot_ge (f := fun x => 2 ^ (m - occ C (sym x))) (l := r) (fun y _ => Nat.one_le_two_pow)
        simp only [tot, hz, Nat.sub_zero, List.length_cons] at e3 e4
        omega
      · exact hz
    refine ⟨h0, fun j hj hp => ?_, fun j k hj hk hp hlt => ?_, fun _ => ?_, fun h2 => by omega⟩
    · obtain ⟨x, hx1, hx2, _⟩ := hx j hj hp
      have a := hge x hx1
      have b := k1 x hx1
      rw [hx2] at a b
      exact ⟨a, b⟩
    · obtain ⟨x, hx1, hx2, hx3⟩ := hx j hj hp
      obtain ⟨y, hy1, hy2, hy3⟩ := hx k hk (by omega)
      have a := k2 x hx1 y hy1 (by omega)
      rw [hx2, hy2] at a
      exact a
    · rw [← hw]
      exact tot_congr fun x hx => by rw [hsym x hx]

theorem tot_mul (f : Ab → Nat) (c : Nat) (l : List Ab) : tot (fun x => c * f x) l = c * tot f l := by
  induction l with
  | nil => simp [tot]
  | cons x r ih => simp [tot, ih, Nat.mul_add]
theorem wt_range (l : Nat → Nat) : ∀ (i : Nat) (cs : List Int), (∀ j, j < cs.length → cs.getD j 0 ≤ 0 → l (i + j) = 0) → (∀ j, j < cs.length → 0 < cs.getD j 0 → 1 ≤ l (i + j)) →
    wt ((List.range' i cs.length).map fun j => (l j : Int)) = tot (fun x => 2 ^ (15 - l (sym x).toNat)) (singAt i cs)
  | i, [], _, _ => rfl
  | i, c :: r, h0, h1 => by
    have ih := wt_range l (i + 1) r (fun j hj hc => by have := h0 (j + 1) (by simpa using hj) (by simpa using hc); rw [show i + 1 + j = i + (j + 1) by omega]; exact this)
      (fun j hj hc => by have := h1 (j + 1) (by simpa using hj) (by simpa using hc); rw [show i + 1 + j = i + (j + 1) by omega]; exact this)
    rw [List.length_cons, List.range'_succ, List.map_cons, wt, ih]
    simp only [singAt]
    by_cases hc : 0 < c
    · have := h1 0 (by simp) (by simpa using hc)
      simp at this
      rw [if_pos hc, tot, if_pos (by omega)]
      simp [sym]
    · have := h0 0 (by simp) (by simpa using hc)
      simp at this
      rw [if_neg hc, if_neg (by omega)]
      omega
/-- the weight of the chosen code -/
theorem good_wt {cs : List Int} {m : Nat} {l : Nat → Nat} (h15 : m ≤ 15) (g : Good cs m l) :
    (2 ≤ (sing cs).length → wt ((List.range cs.length).map fun j => (l j : Int)) = 32768) ∧ ((sing cs).length = 1 → wt ((List.range cs.length).map fun j => (l j : Int)) = 16384) ∧ ((sing cs).length = 0 → wt ((List.range cs.length).map fun j => (l j : Int)) = 0) := by
  have e := wt_range l 0 cs (fun j hj hc => by rw [Nat.zero_add]; exact g.none j hj hc) (fun j hj hc => by rw [Nat.zero_add]; exact (g.some j hj hc).1)
  rw [← List.range_eq_range'] at e
  refine ⟨fun h2 => ?_, fun h1 => ?_, fun h0 => ?_⟩
  · rw [e]
    have h3 := g.whole h2
    have e2 : tot (fun x => 2 ^ (15 - l (sym x).toNat)) (singAt 0 cs) = tot (fun x => 2 ^ (15 - m) * 2 ^ (m - l (sym x).toNat)) (singAt 0 cs) := tot_congr fun x hx => by
      obtain ⟨j, hj, ex, hp⟩ := sing_mem hx
      have hlj := (g.some j hj hp).2
      have : (sym x).toNat = j := by rw [ex]; simp [sym]
      rw [this, ← Nat.pow_add]
      congr 1
      omega
    rw [e2, tot_mul]
    have h3' : tot (fun x => 2 ^ (m - l (sym x).toNat)) (singAt 0 cs) = 2 ^ m := h3
    rw [h3', ← Nat.pow_add, show 15 - m + m = 15 by omega]
  · rw [e]
    have hs : (singAt 0 cs).length = 1 := h1
    match hx : singAt 0 cs, hs with
    | [x], _ =>
      have hx' : x ∈ sing cs := by unfold sing; rw [hx]; simp
      obtain ⟨j, hj, ex, hp⟩ := sing_mem hx'
      have := g.alone h1 j hj hp
      have e3 : (sym x).toNat = j := by rw [ex]; simp [sym]
      simp [tot, e3, this]
  · rw [e]
    have hs : singAt 0 cs = [] := List.eq_nil_of_length_eq_zero h0
    rw [hs]; rfl
end Go.Proofs.Ythdmjmnkhlpnnaa
