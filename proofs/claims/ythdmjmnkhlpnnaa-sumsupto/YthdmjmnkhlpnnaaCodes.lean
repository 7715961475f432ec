/-
  What bale.Codes answers, in one: the numbers and the error.
-/
import Derived.Test.YthdmjmnkhlpnnaaBits
namespace Go.Proofs.Ythdmjmnkhlpnnaa
open Go.RowKit

/-- the error of Codes -/
def cerr (zs : List Int) : Int := if 320 < zs.length ∨ zs.any nl = true then 9 else if 32768 < wt zs then 3 else 0
/-- the list that Codes answers -/
def cout (zs : List Int) : List Int := if 320 < zs.length ∨ zs.any nl = true then [] else if 32768 < wt zs then [] else bts zs
theorem cout_le (zs : List Int) : (cout zs).length ≤ 320 := by
  unfold cout
  split
  · simp
  · split
    · simp
    · rename_i h _; rw [bts_length]; omega

/-- a list in new memory, as long as its memory; or nil -/
def New (w w' : World) (v : Value) (l : List Int) : Prop := (v = .slice none 0 0 ∧ l = []) ∨ ∃ g, v = .slice (some ⟨g, 0, none⟩) l.length l.length ∧ w.heap.size ≤ g ∧ Row w' g l

set_option maxHeartbeats 400000 in
theorem codes_any (ao : Option Addr) (c : Nat) (zs : List Int) (w : World) (hs : Seg w ao zs) (hm : zs.length ≤ maxLen) :
    Calls Try.prog 13 #[.slice ao zs.length c] w fun e w' => ∃ v, e = .returned (.tuple #[v, .int .i64 (cerr zs)]) ∧ New w w' v (cout zs) ∧ Below w.heap.size w w' := by
  by_cases hbad : 320 < zs.length ∨ zs.any nl = true
  · go_enter Try.func13, Try.ntmps13
    go_wp2_with (go_at_call 25; refine (bits_number _ _ _ _ hs hm hbad).mono ?_; rintro e w' ⟨rfl, rfl⟩)
    go_ret2
    exact ⟨.slice none 0 0, by simp only [cerr, if_pos hbad]; rfl, .inl ⟨rfl, by simp only [cout, if_pos hbad]⟩, Below.refl _ _⟩
  · have h320 : zs.length ≤ 320 := by omega
    have hok : zs.any nl = false := by
      rcases h : zs.any nl with _ | _
      · rfl
      · exact absurd (Or.inr h) hbad
    by_cases hw : 32768 < wt zs
    · go_enter Try.func13, Try.ntmps13
      go_wp2_with (go_at_call 25; refine (bits_code _ _ _ _ hs h320 hok hw).mono ?_; rintro e w' ⟨rfl, rfl⟩)
      go_ret2
      exact ⟨.slice none 0 0, by simp only [cerr, if_neg hbad, if_pos hw]; rfl, .inl ⟨rfl, by simp only [cout, if_neg hbad, if_pos hw]⟩, Below.refl _ _⟩
    · have HB : Hid (¬ (320 < zs.length ∨ zs.any nl = true)) := hbad
      have HW : Hid (¬ 32768 < wt zs) := hw
      clear hbad
      go_enter Try.func13, Try.ntmps13
      go_wp2_with (go_at_call 25; refine (bits_ok _ _ _ _ hs h320 hok (by omega)).mono ?_; rintro e w' ⟨g, rfl, hg, hrow, hbel⟩)
      go_ret2
      have e1 : cout zs = bts zs := by simp only [cout, if_neg HB.out, if_neg HW.out]
      have e2 : cerr zs = 0 := by simp only [cerr, if_neg HB.out, if_neg HW.out]
      rw [e1, e2]
      exact ⟨_, rfl, .inr ⟨g, by rw [bts_length]; rfl, hg, hrow⟩, hbel⟩
end Go.Proofs.Ythdmjmnkhlpnnaa
