/-
  Which numbers a letter, a step or a symbol of the code of lengths stands for.
-/
import Derived.Test.YthdmjmnkhlpnnaaDoorFind
namespace Go.Proofs.YthdmjmnkhlpnnaaDoor
open Go.RowKit

/-- a span of a row: its least number, how many bits -/
def spn (k g : Nat) : Nat × Nat := if k < g then (k, 0) else ((g + k % g) * 2 ^ (k / g - 1), k / g - 1)
/-- of letter 257 + k -/
def agn (k : Nat) : Nat × Nat := if k = 28 then (258, 0) else ((spn k 4).1 + 3, (spn k 4).2)
/-- of step k -/
def bck (k : Nat) : Nat × Nat := ((spn k 2).1 + 1, (spn k 2).2)
/-- of a symbol of the code of lengths -/
def tms (k : Nat) : Nat × Nat := if k = 16 then (3, 2) else if k = 17 then (3, 3) else if k = 18 then (11, 7) else (1, 0)
theorem agn_le (k : Nat) (h : k ≤ 28) : 3 ≤ (agn k).1 ∧ (agn k).1 + 2 ^ (agn k).2 ≤ 259 ∧ (agn k).2 ≤ 5 := by
  have : ∀ k, k ≤ 28 → 3 ≤ (agn k).1 ∧ (agn k).1 + 2 ^ (agn k).2 ≤ 259 ∧ (agn k).2 ≤ 5 := by decide
  exact this k h
theorem bck_le (k : Nat) (h : k ≤ 29) : 1 ≤ (bck k).1 ∧ (bck k).1 ≤ 24577 ∧ (bck k).2 ≤ 13 := by
  have : ∀ k, k ≤ 29 → 1 ≤ (bck k).1 ∧ (bck k).1 ≤ 24577 ∧ (bck k).2 ≤ 13 := by decide
  exact this k h
theorem tms_le (k : Nat) : 1 ≤ (tms k).1 ∧ (tms k).1 ≤ 11 ∧ (tms k).2 ≤ 7 := by
  unfold tms
  split
  · decide
  · split
    · decide
    · split <;> decide
theorem spn_small (k g : Nat) (hg : g = 2 ∨ g = 4) (hk : k ≤ 29) : (spn k g).1 ≤ 24576 ∧ (spn k g).2 ≤ 13 := by
  have h2 : ∀ k, k ≤ 29 → (spn k 2).1 ≤ 24576 ∧ (spn k 2).2 ≤ 13 := by decide
  have h4 : ∀ k, k ≤ 29 → (spn k 4).1 ≤ 24576 ∧ (spn k 4).2 ≤ 13 := by decide
  rcases hg with rfl | rfl
  · exact h2 k hk
  · exact h4 k hk

set_option maxHeartbeats 800000 in
theorem span_two (k : Nat) (hk : k ≤ 29) (w : World) :
    Calls Tryd.prog 100 #[.int .i64 k, .int .i64 2] w fun e w' => e = .returned (.agg #[.int .i64 (spn k 2).1, .int .i64 (spn k 2).2]) ∧ Below w.heap.size w w' := by
  have hb := spn_small k 2 (by omega) hk
  by_cases hlt : k < 2
  · have e : spn k 2 = (k, 0) := by unfold spn; rw [if_pos hlt]
    rw [e]
    clear hb e
    go_enter Tryd.func100, Tryd.ntmps100
    go_wp2
    exact bodyPost_ret (v := .agg #[.int .i64 k, .int .i64 0]) (by simp [results, Tryd.results100, go_sem]) rfl ⟨rfl, (Below.refl _ _).alloc (Nat.le_refl _) _⟩
  · have e : spn k 2 = ((2 + k % 2) * 2 ^ (k / 2 - 1), k / 2 - 1) := by unfold spn; rw [if_neg hlt]
    rw [e] at hb ⊢
    have hq0 : 0 ≤ (k : Int) / 2 - 1 := by omega
    have hq1 : (k : Int) / 2 - 1 ≤ 63 := by omega
    have hq2 : ((k : Int) / 2 - 1).toNat = k / 2 - 1 := by omega
    obtain ⟨z, hz⟩ : ∃ z : Nat, z = (2 + k % 2) * 2 ^ (k / 2 - 1) := ⟨_, rfl⟩
    have hz2 : ((2 : Int) + (k : Int) % 2) * 2 ^ (k / 2 - 1) = (z : Int) := by rw [hz]; push_cast; rfl
    rw [← hz] at hb ⊢
    have hz3 : z ≤ 24576 := hb.1
    clear hz hb e
    go_enter Tryd.func100, Tryd.ntmps100
    go_wp2
    refine bodyPost_ret (v := .agg #[.int .i64 z, .int .i64 ((k : Int) / 2 - 1)]) (by simp [results, Tryd.results100, go_sem]) rfl ⟨?_, (Below.refl _ _).alloc (Nat.le_refl _) _⟩
    rw [show ((k : Int) / 2 - 1) = ((k / 2 - 1 : Nat) : Int) by omega]
set_option maxHeartbeats 800000 in
theorem span_four (k : Nat) (hk : k ≤ 29) (w : World) :
    Calls Tryd.prog 100 #[.int .i64 k, .int .i64 4] w fun e w' => e = .returned (.agg #[.int .i64 (spn k 4).1, .int .i64 (spn k 4).2]) ∧ Below w.heap.size w w' := by
  have hb := spn_small k 4 (by omega) hk
  by_cases hlt : k < 4
  · have e : spn k 4 = (k, 0) := by unfold spn; rw [if_pos hlt]
    rw [e]
    clear hb e
    go_enter Tryd.func100, Tryd.ntmps100
    go_wp2
    exact bodyPost_ret (v := .agg #[.int .i64 k, .int .i64 0]) (by simp [results, Tryd.results100, go_sem]) rfl ⟨rfl, (Below.refl _ _).alloc (Nat.le_refl _) _⟩
  · have e : spn k 4 = ((4 + k % 4) * 2 ^ (k / 4 - 1), k / 4 - 1) := by unfold spn; rw [if_neg hlt]
    rw [e] at hb ⊢
    have hq0 : 0 ≤ (k : Int) / 4 - 1 := by omega
    have hq1 : (k : Int) / 4 - 1 ≤ 63 := by omega
    have hq2 : ((k : Int) / 4 - 1).toNat = k / 4 - 1 := by omega
    obtain ⟨z, hz⟩ : ∃ z : Nat, z = (4 + k % 4) * 2 ^ (k / 4 - 1) := ⟨_, rfl⟩
    have hz2 : ((4 : Int) + (k : Int) % 4) * 2 ^ (k / 4 - 1) = (z : Int) := by rw [hz]; push_cast; rfl
    rw [← hz] at hb ⊢
    have hz3 : z ≤ 24576 := hb.1
    clear hz hb e
    go_enter Tryd.func100, Tryd.ntmps100
    go_wp2
    refine bodyPost_ret (v := .agg #[.int .i64 z, .int .i64 ((k : Int) / 4 - 1)]) (by simp [results, Tryd.results100, go_sem]) rfl ⟨?_, (Below.refl _ _).alloc (Nat.le_refl _) _⟩
    rw [show ((k : Int) / 4 - 1) = ((k / 4 - 1 : Nat) : Int) by omega]
theorem span_two' (z : Int) (h0 : 0 ≤ z) (h1 : z ≤ 29) (w : World) :
    Calls Tryd.prog 100 #[.int .i64 z, .int .i64 2] w fun e w' => e = .returned (.agg #[.int .i64 (spn z.toNat 2).1, .int .i64 (spn z.toNat 2).2]) ∧ Below w.heap.size w w' := by
  obtain ⟨k, rfl⟩ := Int.eq_ofNat_of_zero_le h0
  exact span_two k (by omega) w
theorem span_four' (z : Int) (h0 : 0 ≤ z) (h1 : z ≤ 29) (w : World) :
    Calls Tryd.prog 100 #[.int .i64 z, .int .i64 4] w fun e w' => e = .returned (.agg #[.int .i64 (spn z.toNat 4).1, .int .i64 (spn z.toNat 4).2]) ∧ Below w.heap.size w w' := by
  obtain ⟨k, rfl⟩ := Int.eq_ofNat_of_zero_le h0
  exact span_four k (by omega) w

/-- what was laid ahead of a call is there behind it -/
theorem kept2 {w w1 : World} {a b : Value} {T : TypeId} (hb : Below (w.alloc (.cells #[a, b] T)).heap.size (w.alloc (.cells #[a, b] T)) w1) :
    w1.cell? ⟨w.heap.size, 0, none⟩ = some a ∧ w1.cell? ⟨w.heap.size, 1, none⟩ = some b ∧ w1.frozen? ⟨w.heap.size, 0, none⟩ = false ∧ w1.frozen? ⟨w.heap.size, 1, none⟩ = false ∧ w.heap.size < w1.heap.size ∧ Below w.heap.size w w1 := by
  have hs := hb.size
  simp at hs
  refine ⟨?_, ?_, ?_, ?_, by omega, ((Below.refl _ _).alloc (Nat.le_refl _) _).trans (hb.mono (by simp))⟩
  · rw [hb.cell (p := ⟨w.heap.size, 0, none⟩) (by simp)]; simp
  · rw [hb.cell (p := ⟨w.heap.size, 1, none⟩) (by simp)]; simp
  · rw [hb.frozen (p := ⟨w.heap.size, 0, none⟩) (by simp)]; simp
  · rw [hb.frozen (p := ⟨w.heap.size, 1, none⟩) (by simp)]; simp

set_option maxHeartbeats 800000 in
theorem back_any (z : Int) (h0 : 0 ≤ z) (h1 : z ≤ 29) (w : World) :
    Calls Tryd.prog 89 #[.int .i64 z] w fun e w' => e = .returned (.agg #[.int .i64 (bck z.toNat).1, .int .i64 (bck z.toNat).2]) ∧ Below w.heap.size w w' := by
  obtain ⟨l, hl⟩ : ∃ l, l = (spn z.toNat 2).1 := ⟨_, rfl⟩
  obtain ⟨n, hn⟩ : ∃ n, n = (spn z.toNat 2).2 := ⟨_, rfl⟩
  have hb : l ≤ 24576 := by rw [hl]; exact (spn_small z.toNat 2 (by omega) (by omega)).1
  have e : bck z.toNat = (l + 1, n) := by unfold bck; rw [hl, hn]
  rw [e]
  have HL := hid hl
  have HN := hid hn
  clear hl hn e
  go_enter Tryd.func89, Tryd.ntmps89
  go_wp2_with (go_at_call 100; refine (span_two' _ h0 h1 _).mono ?_; rintro e w1 ⟨rfl, hb1⟩; rw [← HL.out, ← HN.out]; obtain ⟨m0, m1, m2, m3, m4, m5⟩ := kept2 hb1; clear hb1)
  refine bodyPost_ret (v := .agg #[.int .i64 (l + 1), .int .i64 n]) (by simp [results, Tryd.results89, go_sem, m0, m1, m4]) rfl ⟨rfl, ?_⟩
  exact ((m5.setCell (Nat.le_refl _) _).setCell (Nat.le_refl _) _).alloc (by simp [World.setCell]; omega) _

set_option maxHeartbeats 800000 in
theorem again_span (z : Int) (h0 : 257 ≤ z) (h1 : z ≤ 285) (w : World) :
    Calls Tryd.prog 74 #[.int .i64 z] w fun e w' => e = .returned (.agg #[.int .i64 (agn (z - 257).toNat).1, .int .i64 (agn (z - 257).toNat).2]) ∧ Below w.heap.size w w' := by
  by_cases h285 : z = 285
  · subst h285
    go_enter Tryd.func74, Tryd.ntmps74
    go_wp2
    exact bodyPost_ret (v := .agg #[.int .i64 258, .int .i64 0]) (by simp [results, Tryd.results74, go_sem]) rfl ⟨rfl, (Below.refl _ _).alloc (Nat.le_refl _) _⟩
  · obtain ⟨l, hl⟩ : ∃ l, l = (spn (z - 257).toNat 4).1 := ⟨_, rfl⟩
    obtain ⟨n, hn⟩ : ∃ n, n = (spn (z - 257).toNat 4).2 := ⟨_, rfl⟩
    have hb : l ≤ 24576 := by rw [hl]; exact (spn_small (z - 257).toNat 4 (by omega) (by omega)).1
    have e : agn (z - 257).toNat = (l + 3, n) := by unfold agn; rw [if_neg (by omega), hl, hn]
    rw [e]
    have HL := hid hl
    have HN := hid hn
    have hne : (z == 285) = false := beq_eq_false_iff_ne.2 h285
    have hz : Hid (z - 256 - 1 = z - 257) := by show _ = _; omega
    clear hl hn e
    go_enter Tryd.func74, Tryd.ntmps74
    go_wp2_with (go_at_call 100; refine (span_four' _ (by omega) (by omega) _).mono ?_; rintro e w1 ⟨rfl, hb1⟩; rw [hz.out, ← HL.out, ← HN.out]; obtain ⟨m0, m1, m2, m3, m4, m5⟩ := kept2 hb1; clear hb1)
    refine bodyPost_ret (v := .agg #[.int .i64 (l + 3), .int .i64 n]) (by simp [results, Tryd.results74, go_sem, m0, m1, m4]) rfl ⟨rfl, ?_⟩
    exact ((m5.setCell (Nat.le_refl _) _).setCell (Nat.le_refl _) _).alloc (by simp [World.setCell]; omega) _

set_option maxHeartbeats 800000 in
theorem times_any (z : Int) (h0 : 0 ≤ z) (h1 : z ≤ 18) (w : World) :
    Calls Tryd.prog 106 #[.int .i64 z] w fun e w' => e = .returned (.agg #[.int .i64 (tms z.toNat).1, .int .i64 (tms z.toNat).2]) ∧ Below w.heap.size w w' := by
  by_cases h16 : z = 16
  · subst h16
    go_enter Tryd.func106, Tryd.ntmps106
    go_wp2
    exact bodyPost_ret (v := .agg #[.int .i64 3, .int .i64 2]) (by simp [results, Tryd.results106, go_sem]) rfl ⟨rfl, (Below.refl _ _).alloc (Nat.le_refl _) _⟩
  · have b16 : (z == 16) = false := beq_eq_false_iff_ne.2 h16
    by_cases h17 : z = 17
    · subst h17
      go_enter Tryd.func106, Tryd.ntmps106
      go_wp2
      exact bodyPost_ret (v := .agg #[.int .i64 3, .int .i64 3]) (by simp [results, Tryd.results106, go_sem]) rfl ⟨rfl, (Below.refl _ _).alloc (Nat.le_refl _) _⟩
    · have b17 : (z == 17) = false := beq_eq_false_iff_ne.2 h17
      by_cases h18 : z = 18
      · subst h18
        go_enter Tryd.func106, Tryd.ntmps106
        go_wp2
        exact bodyPost_ret (v := .agg #[.int .i64 11, .int .i64 7]) (by simp [results, Tryd.results106, go_sem]) rfl ⟨rfl, (Below.refl _ _).alloc (Nat.le_refl _) _⟩
      · have b18 : (z == 18) = false := beq_eq_false_iff_ne.2 h18
        have e : tms z.toNat = (1, 0) := by unfold tms; rw [if_neg (by omega), if_neg (by omega), if_neg (by omega)]
        rw [e]
        clear e
        go_enter Tryd.func106, Tryd.ntmps106
        go_wp2
        exact bodyPost_ret (v := .agg #[.int .i64 1, .int .i64 0]) (by simp [results, Tryd.results106, go_sem]) rfl ⟨rfl, (Below.refl _ _).alloc (Nat.le_refl _) _⟩

/-- a region's end that is none: where a call gave up -/
theorem dead {P : Program} {G : Prop} (h : G) (w : World) : wpAny P .any #[] (fun _ _ _ => True) 0 #[] ⟨#[], []⟩ w → G := fun _ => h
end Go.Proofs.YthdmjmnkhlpnnaaDoor
