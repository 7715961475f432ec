/-
  Bytes by 'exclusive or'.
-/
import Derived.Test.YthdmjmnkhlpnnaaGreatDoorZ01
namespace Go.Proofs.YthdmjmnkhlpnnaaGreatDoor
open Go.RowKit
theorem xor_u8 : ∀ x : Nat, x < 256 → ∀ y : Nat, y < 256 → bits BinOp.xor IntKind.u8 (x : Int) (y : Int) = ((x ^^^ y : Nat) : Int) ∧ x ^^^ y < 256 ∧ (0 < y → x ^^^ y ≠ x) := by decide +kernel
end Go.Proofs.YthdmjmnkhlpnnaaGreatDoor
