/-
  What bale.Codes answers, in one: the numbers and the error.
-/
import Derived.Test.YthdmjmnkhlpnnaaDoorBits
namespace Go.Proofs.YthdmjmnkhlpnnaaDoor
open Go.RowKit

/-- the error of Codes -/
def cerr (zs : List Int) : Int := if 320 < zs.length ∨ zs.any nl = true then 9 else if 32768 < wt zs then 3 else 0
/-- the list that Codes answers -/
def cout (zs : List Int) : List Int := if 320 < zs.length ∨ zs.any nl = true then [] else if 32768 < wt zs then [] else bts zs
theorem cout_le (zs : List Int) : (cout zs).length ≤ 320 := by
  unfold cout
  split
  · simp
  · split
    · simp
    · rename_i h _; rw [bts_length]; omega

/-- a list in new memory, as long as its memory; or nil -/
def New (w w' : World) (v : Value) (l : List Int) : Prop := (v = .slice none 0 0 ∧ l = []) ∨ ∃ g, v = .slice (some ⟨g, 0, none⟩) l.length l.length ∧ w.heap.size ≤ g ∧ Row w' g l

end Go.Proofs.YthdmjmnkhlpnnaaDoor
