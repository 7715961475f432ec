/-
  What bale.Lengths answers; what holds of the lengths that it answers.
-/
import Derived.Test.YthdmjmnkhlpnnaaLenx
import Derived.Test.YthdmjmnkhlpnnaaCosts
import Derived.Test.YthdmjmnkhlpnnaaPref
namespace Go.Proofs.Ythdmjmnkhlpnnaa
open Go.RowKit

set_option maxHeartbeats 400000 in
theorem blengths_number (ao : Option Addr) (c : Nat) (cs : List Int) (m : Int) (w : World) (hs : Seg w ao cs) (hl : cs.length ≤ maxLen) (hbad : 320 < cs.length ∨ cs.any nc = true ∨ m < 1 ∨ 15 < m) :
    Calls Try.prog 12 #[.slice ao cs.length c, .int .i64 m] w fun e w' => e = .returned (.tuple #[.slice none 0 0, .int .i64 9]) ∧ w = w' := by
  have HB := hid hbad
  clear hbad
  go_enter Try.func12, Try.ntmps12
  go_wp2_with (go_at_call 24; refine (lengths_number _ _ _ _ _ hs hl HB.out).mono ?_; rintro e w' ⟨rfl, rfl⟩)
  go_ret2
  exact ⟨rfl, rfl⟩
set_option maxHeartbeats 400000 in
theorem blengths_many (ao : Option Addr) (c : Nat) (cs : List Int) (m : Nat) (w : World) (hs : Seg w ao cs) (h320 : cs.length ≤ 320) (hok : cs.any nc = false) (h1 : 1 ≤ m) (h15 : m ≤ 15) (hmany : 2 ^ m < (sing cs).length) :
    Calls Try.prog 12 #[.slice ao cs.length c, .int .i64 m] w fun e w' => e = .returned (.tuple #[.slice none 0 0, .int .i64 9]) ∧ Below w.heap.size w w' := by
  have HM := hid hmany
  clear hmany
  go_enter Try.func12, Try.ntmps12
  go_wp2_with (go_at_call 24; refine (lengths_many _ _ _ _ _ hs h320 hok h1 h15 HM.out).mono ?_; rintro e w' ⟨rfl, hb⟩)
  go_ret2
  exact ⟨rfl, hb⟩
set_option maxHeartbeats 400000 in
theorem blengths_det (ao : Option Addr) (c : Nat) (cs : List Int) (m : Nat) (w : World) (hs : Seg w ao cs) (h320 : cs.length ≤ 320) (hok : cs.any nc = false) (h1 : 1 ≤ m) (h15 : m ≤ 15) (hfew : (sing cs).length ≤ 2 ^ m) :
    Calls Try.prog 12 #[.slice ao cs.length c, .int .i64 m] w fun e w' => ∃ g C, e = .returned (.tuple #[.slice (some ⟨g, 0, none⟩) cs.length cs.length, .int .i64 0]) ∧ w.heap.size ≤ g ∧ Row w' g (lens cs.length (C.flatMap Prod.snd)) ∧ Chs (sing cs) m C ∧ Below w.heap.size w w' ∧ ChsD (sing cs) m C := by
  have HM := hid hfew
  clear hfew
  go_enter Try.func12, Try.ntmps12
  go_wp2_with (go_at_call 24; refine (lengths_det _ _ _ _ _ hs h320 hok h1 h15 HM.out).mono ?_; rintro e w' ⟨g, C, rfl, hg, hr, hc, hb, hd⟩)
  go_ret2
  exact ⟨g, C, rfl, hg, hr, hc, hb, hd⟩

theorem blengths_ok (ao : Option Addr) (c : Nat) (cs : List Int) (m : Nat) (w : World) (hs : Seg w ao cs) (h320 : cs.length ≤ 320) (hok : cs.any nc = false) (h1 : 1 ≤ m) (h15 : m ≤ 15) (hfew : (sing cs).length ≤ 2 ^ m) :
    Calls Try.prog 12 #[.slice ao cs.length c, .int .i64 m] w fun e w' => ∃ g C, e = .returned (.tuple #[.slice (some ⟨g, 0, none⟩) cs.length cs.length, .int .i64 0]) ∧ w.heap.size ≤ g ∧ Row w' g (lens cs.length (C.flatMap Prod.snd)) ∧ Chs (sing cs) m C ∧ Below w.heap.size w w' := by
  refine (blengths_det ao c cs m w hs h320 hok h1 h15 hfew).mono ?_
  rintro e w' ⟨g, C, x1, x2, x3, x4, x5, _⟩
  exact ⟨g, C, x1, x2, x3, x4, x5⟩

/-- the lengths that were chosen -/
def chl (cs : List Int) (C : List Ab) : List Int := lens cs.length (C.flatMap Prod.snd)
theorem chl_length (cs : List Int) (C : List Ab) : (chl cs C).length = cs.length := lens_length _ _
theorem chl_getD (cs : List Int) (C : List Ab) (i : Nat) (h : i < cs.length) : (chl cs C).getD i 0 = ((occ C (i : Int) : Nat) : Int) := lens_getD _ _ _ h
theorem chl_eq (cs : List Int) (C : List Ab) : chl cs C = (List.range cs.length).map fun j : Nat => ((occ C (j : Int) : Nat) : Int) := rfl
theorem chl_ok {cs : List Int} {m : Nat} {C : List Ab} (h1 : 1 ≤ m) (h15 : m ≤ 15) (hfew : (sing cs).length ≤ 2 ^ m) (h : Chs (sing cs) m C) : (chl cs C).any nl = false ∧ wt (chl cs C) ≤ 32768 := by
  have g := good_of h1 hfew h
  obtain ⟨w2, w1, w0⟩ := good_wt h15 g
  constructor
  · cases e : (chl cs C).any nl with
    | false => rfl
    | true =>
      obtain ⟨z, hz, hn⟩ := List.any_eq_true.1 e
      rw [chl_eq] at hz
      obtain ⟨j, hj, rfl⟩ := List.mem_map.1 hz
      have hj' := List.mem_range.1 hj
      have : occ C (j : Int) ≤ 15 := by
        by_cases h0 : 0 < cs.getD j 0
        · have := (g.some j hj' h0).2; omega
        · have := g.none j hj' (by omega); omega
      simp [nl] at hn
      omega
  · rw [chl_eq]
    by_cases a : 2 ≤ (sing cs).length
    · have := w2 a; omega
    · by_cases b : (sing cs).length = 1
      · have := w1 b; omega
      · have := w0 (by omega); omega
end Go.Proofs.Ythdmjmnkhlpnnaa
