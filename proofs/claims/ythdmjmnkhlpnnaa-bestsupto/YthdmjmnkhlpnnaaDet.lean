/-
  What a heap does hangs on the weights alone: each of its steps as a relation that has one answer. Plain mathematics.
-/
import Derived.Test.YthdmjmnkhlpnnaaHeapo
namespace Go.Proofs.Ythdmjmnkhlpnnaa

section
variable {α β : Type} (f : α → Int) (z : α)
def wz (A : List α) (k : Nat) : Int := f (A.getD k z)
def sz (A : List α) (i j : Nat) : List α := (A.set i (A.getD j z)).set j (A.getD i z)
inductive Rise : List α → Nat → List α → Prop
  | top (A : List α) : Rise A 0 A
  | stop (A : List α) (k : Nat) : 0 < k → ¬ wz f z A k < wz f z A ((k - 1) / 2) → Rise A k A
  | step (A : List α) (k : Nat) (B : List α) : 0 < k → wz f z A k < wz f z A ((k - 1) / 2) → Rise (sz z A k ((k - 1) / 2)) ((k - 1) / 2) B → Rise A k B
def fz (A : List α) (k : Nat) : Nat := if 2 * k + 2 < A.length ∧ wz f z A (2 * k + 2) < wz f z A (2 * k + 1) then 2 * k + 2 else 2 * k + 1
inductive Sink : List α → Nat → List α → Prop
  | none (A : List α) (k : Nat) : ¬ fz f z A k < A.length → Sink A k A
  | stop (A : List α) (k : Nat) : ¬ wz f z A (fz f z A k) < wz f z A k → Sink A k A
  | step (A : List α) (k : Nat) (B : List α) : fz f z A k < A.length → wz f z A (fz f z A k) < wz f z A k → Sink (sz z A k (fz f z A k)) (fz f z A k) B → Sink A k B
theorem Rise.det {A B C : List α} {k : Nat} (h : Rise f z A k B) (h' : Rise f z A k C) : B = C := by
  induction h generalizing C with
  | top A =>
    cases h' with
    | top => rfl
    | stop _ _ h0 _ => omega
    | step _ _ _ h0 _ _ => omega
  | stop A k h0 h1 =>
    cases h' with
    | top => rfl
    | stop _ _ _ _ => rfl
    | step _ _ _ _ h2 _ => exact absurd h2 h1
  | step A k B h0 h1 _ ih =>
    cases h' with
    | top => omega
    | stop _ _ _ h2 => exact absurd h1 h2
    | step _ _ _ _ _ h3 => exact ih h3
theorem Sink.det {A B C : List α} {k : Nat} (h : Sink f z A k B) (h' : Sink f z A k C) : B = C := by
  induction h generalizing C with
  | none A k h0 =>
    cases h' with
    | none _ _ _ => rfl
    | stop _ _ _ => rfl
    | step _ _ _ h1 _ _ => exact absurd h1 h0
  | stop A k h1 =>
    cases h' with
    | none _ _ _ => rfl
    | stop _ _ _ => rfl
    | step _ _ _ _ h2 _ => exact absurd h2 h1
  | step A k B h0 h1 _ ih =>
    cases h' with
    | none _ _ h2 => exact absurd h0 h2
    | stop _ _ h2 => exact absurd h1 h2
    | step _ _ _ _ _ h3 => exact ih h3
/-- things are put in, one behind the other -/
def Puts : List α → List α → List α → Prop
  | A, [], B => B = A
  | A, p :: L, B => ∃ M, Rise f z (A ++ [p]) A.length M ∧ Puts M L B
theorem Puts.det {L : List α} : ∀ {A B C : List α}, Puts f z A L B → Puts f z A L C → B = C := by
  induction L with
  | nil => intro A B C h h'; exact Eq.trans h (Eq.symm h')
  | cons p L ih =>
    intro A B C h h'
    obtain ⟨M, h1, h2⟩ := h
    obtain ⟨M', h1', h2'⟩ := h'
    have e := Rise.det f z h1 h1'
    subst e
    exact ih h2 h2'
theorem Puts.snoc {L : List α} : ∀ {A B C : List α} {p : α}, Puts f z A L B → Rise f z (B ++ [p]) B.length C → Puts f z A (L ++ [p]) C := by
  induction L with
  | nil => intro A B C p h h'; have e : B = A := h; subst e; exact ⟨C, h', rfl⟩
  | cons q L ih =>
    intro A B C p h h'
    obtain ⟨M, h1, h2⟩ := h
    exact ⟨M, h1, ih h2 h'⟩
/-- one is taken -/
def Tak (A B : List α) : Prop := (A.length = 1 ∧ B = []) ∨ (2 ≤ A.length ∧ Sink f z (((A.set 0 (A.getD (A.length - 1) z)).set (A.length - 1) z).take (A.length - 1)) 0 B)
theorem Tak.det {A B C : List α} (h : Tak f z A B) (h' : Tak f z A C) : B = C := by
  rcases h with ⟨h0, h1⟩ | ⟨h0, h1⟩
  · rcases h' with ⟨_, h2⟩ | ⟨h2, _⟩
    · rw [h1, h2]
    · omega
  · rcases h' with ⟨h2, _⟩ | ⟨_, h2⟩
    · omega
    · exact Sink.det f z h1 h2
/-- some are taken, one behind the other, and what is left -/
def Dr : List α → List α → List α → Prop
  | A, [], R => R = A
  | A, x :: L, R => x = A.getD 0 z ∧ ∃ B, Tak f z A B ∧ Dr B L R
theorem Dr.snoc {L : List α} : ∀ {A R R' : List α}, Dr f z A L R → Tak f z R R' → Dr f z A (L ++ [R.getD 0 z]) R' := by
  induction L with
  | nil => intro A R R' h h'; have e : R = A := h; subst e; exact ⟨rfl, R', h', rfl⟩
  | cons q L ih =>
    intro A R R' h h'
    obtain ⟨e, B, h1, h2⟩ := h
    exact ⟨e, B, h1, ih h2 h'⟩
theorem Dr.det {L : List α} : ∀ {A L' : List α}, Dr f z A L [] → Dr f z A L' [] → L = L' := by
  have nt : ∀ {B : List α}, ¬ Tak f z [] B := fun h => by rcases h with ⟨h, _⟩ | ⟨h, _⟩ <;> simp at h
  induction L with
  | nil =>
    intro A L' h h'
    have e : [] = A := h
    subst e
    cases L' with
    | nil => rfl
    | cons x L' => obtain ⟨_, B, h1, _⟩ := h'; exact absurd h1 nt
  | cons x L ih =>
    intro A L' h h'
    obtain ⟨e, B, h1, h2⟩ := h
    cases L' with
    | nil =>
      have e2 : [] = A := h'
      subst e2
      exact absurd h1 nt
    | cons x' L' =>
      obtain ⟨e', B', h1', h2'⟩ := h'
      have e3 := Tak.det f z h1 h1'
      subst e3
      rw [e, e', ih h2 h2']
/-- what comes out of a heap into which a list was put -/
def Made (L La : List α) : Prop := ∃ H, Puts f z [] L H ∧ Dr f z H La []
theorem Made.det {L La Lb : List α} (h : Made f z L La) (h' : Made f z L Lb) : La = Lb := by
  obtain ⟨H, h1, h2⟩ := h
  obtain ⟨H', h1', h2'⟩ := h'
  have e := Puts.det f z h1 h1'
  subst e
  exact Dr.det f z h2 h2'
end

section
variable {α β : Type} {f : α → Int} {z : α} {f' : β → Int} {g : α → β}
theorem map_getD (A : List α) (k : Nat) : (A.map g).getD k (g z) = g (A.getD k z) := by
  simp [List.getD, List.getElem?_map]
theorem wz_map (hf : ∀ x, f' (g x) = f x) (A : List α) (k : Nat) : wz f' (g z) (A.map g) k = wz f z A k := by
  unfold wz; rw [map_getD, hf]
theorem sz_map (A : List α) (i j : Nat) : sz (g z) (A.map g) i j = (sz z A i j).map g := by
  unfold sz; rw [map_getD, map_getD, List.map_set, List.map_set]
theorem fz_map (hf : ∀ x, f' (g x) = f x) (A : List α) (k : Nat) : fz f' (g z) (A.map g) k = fz f z A k := by
  unfold fz; rw [wz_map hf, wz_map hf, List.length_map]
theorem Rise.map (hf : ∀ x, f' (g x) = f x) {A B : List α} {k : Nat} (h : Rise f z A k B) : Rise f' (g z) (A.map g) k (B.map g) := by
  induction h with
  | top A => exact Rise.top _
  | stop A k h0 h1 => exact Rise.stop _ _ h0 (by rw [wz_map hf, wz_map hf]; exact h1)
  | step A k B h0 h1 _ ih => exact Rise.step _ _ _ h0 (by rw [wz_map hf, wz_map hf]; exact h1) (by rw [sz_map]; exact ih)
theorem Sink.map (hf : ∀ x, f' (g x) = f x) {A B : List α} {k : Nat} (h : Sink f z A k B) : Sink f' (g z) (A.map g) k (B.map g) := by
  induction h with
  | none A k h0 => exact Sink.none _ _ (by rw [fz_map hf, List.length_map]; exact h0)
  | stop A k h1 => exact Sink.stop _ _ (by rw [fz_map hf, wz_map hf, wz_map hf]; exact h1)
  | step A k B h0 h1 _ ih => exact Sink.step _ _ _ (by rw [fz_map hf, List.length_map]; exact h0) (by rw [fz_map hf, wz_map hf, wz_map hf]; exact h1) (by rw [fz_map hf, sz_map]; exact ih)
theorem Puts.map (hf : ∀ x, f' (g x) = f x) {L : List α} : ∀ {A B : List α}, Puts f z A L B → Puts f' (g z) (A.map g) (L.map g) (B.map g) := by
  induction L with
  | nil => intro A B h; have e : B = A := h; subst e; rfl
  | cons p L ih =>
    intro A B h
    obtain ⟨M, h1, h2⟩ := h
    refine ⟨M.map g, ?_, ih h2⟩
    have := h1.map (z := z) hf
    rw [List.map_append] at this
    rw [List.length_map]
    exact this
theorem Tak.map (hf : ∀ x, f' (g x) = f x) {A B : List α} (h : Tak f z A B) : Tak f' (g z) (A.map g) (B.map g) := by
  rcases h with ⟨h0, h1⟩ | ⟨h0, h1⟩
  · exact .inl ⟨by simpa using h0, by rw [h1]; rfl⟩
  · refine .inr ⟨by simpa using h0, ?_⟩
    have := h1.map (z := z) hf
    rw [List.map_take, List.map_set, List.map_set] at this
    rw [List.length_map, map_getD]
    exact this
theorem Dr.map (hf : ∀ x, f' (g x) = f x) {L : List α} : ∀ {A R : List α}, Dr f z A L R → Dr f' (g z) (A.map g) (L.map g) (R.map g) := by
  induction L with
  | nil => intro A R h; have e : R = A := h; subst e; rfl
  | cons x L ih =>
    intro A R h
    obtain ⟨e, B, h1, h2⟩ := h
    exact ⟨by rw [map_getD, e], B.map g, h1.map hf, ih h2⟩
theorem Made.map (hf : ∀ x, f' (g x) = f x) {L La : List α} (h : Made f z L La) : Made f' (g z) (L.map g) (La.map g) := by
  obtain ⟨H, h1, h2⟩ := h
  exact ⟨H.map g, h1.map hf, h2.map hf⟩
end

abbrev RiseP := Rise Pc.wt Pc.zero
abbrev SinkP := Sink Pc.wt Pc.zero
abbrev fcP := fz Pc.wt Pc.zero
abbrev PutsP := Puts Pc.wt Pc.zero
abbrev TakP := Tak Pc.wt Pc.zero
abbrev DrP := Dr Pc.wt Pc.zero
abbrev MadeP := Made Pc.wt Pc.zero
theorem wz_pc (ps : List Pc) (k : Nat) : wz Pc.wt Pc.zero ps k = wtAt ps k := rfl
theorem sz_pc (ps : List Pc) (i j : Nat) : sz Pc.zero ps i j = swp ps i j := rfl
end Go.Proofs.Ythdmjmnkhlpnnaa
