/-
  No cell of these rows narrows 'for every input' (looked for: loops, veiled, ifaces, maps, wideKeys, modest, calm, conditions, laid).
  DERIVED. THE GIVEN ROWS OF THIS SEAT. 3 by the template 'for every input the law returns true; each argument reads behind the call as it read before'; 0 by the template 'total and deterministic' (their statements: YthdmjmnkhlpnnaaTotals.lean).
  GIVEN WITH THE SEED: the statements are not yours to turn. If you find one false, say at which input.
  Laid BY PROGRAM, IN A SANDBOX (cutbox-rows.mjs): the forced cells as the released guide's own fill.sh prints them over the translation ac82185603f21648… (all of the seat's roots in one cut). By AI agents, Wed Nov 11 2026. No macro, syntax, notation, axiom, sorry.
-/
import Derived.Test.YthdmjmnkhlpnnaaChecked
import GoSem.Claim
import GoSem.ClaimJoined
import GoSem.ClaimMapViews
import Derived.JoinedTies
import Derived.KernelRfl
namespace Go.Proofs.Ythdmjmnkhlpnnaa
/- THE CELL 'sum', in the pinned program and in every row, IS THE sha256 OF THE DUMP (.gsa) THAT YthdmjmnkhlpnnaaProg.lean LOADS. Nothing in Lean hashes anything: it is a label: what it is worth is what the hold of that sum in a sandbox is worth. -/
noncomputable def Try.pinned : Pinned := { name := "ythdmjmnkhlpnnaa", sum := "ac82185603f21648f5902b4bd1a822fe78d1ce388c447d4992909b1b86ca824e", checked := Try.checked }
namespace Rows
def none {H : Type} : Left H := { results := [], args := [] }

/-- 'balelaw.Sums': WHATEVER THE INPUT: true; the input reads as it did. -/
def sumsSpec : ChangeSpec := { name := "sums", fn := fun _ => fun
  | [d1, d2] => { results := [.lit (.bool true)], args := [d1, d2] }
  | _ => none }
def sumsRow : OpenClaim := { program := "ythdmjmnkhlpnnaa", sum := "ac82185603f21648f5902b4bd1a822fe78d1ce388c447d4992909b1b86ca824e", func := "bale/balelaw.Sums", spec := "sums", unfollowed := true, recurses := true, apart := false }
def SumsSaid : Prop := sumsRow.holds Try.pinned (OpenSpec.ofChange sumsSpec)

/-- ITS FALSE NEIGHBOUR: 'it returns false'. Refute it at one input. -/
def sumsWrong : ChangeSpec := { name := "sums", fn := fun _ => fun
  | [d1, d2] => { results := [.lit (.bool false)], args := [d1, d2] }
  | _ => none }
def SumsWrongFalsely : Prop := sumsRow.holds Try.pinned (OpenSpec.ofChange sumsWrong)

/-- 'balelaw.Bests': WHATEVER THE INPUT: true; the input reads as it did. -/
def bestsSpec : ChangeSpec := { name := "bests", fn := fun _ => fun
  | [d1, d2] => { results := [.lit (.bool true)], args := [d1, d2] }
  | _ => none }
def bestsRow : OpenClaim := { program := "ythdmjmnkhlpnnaa", sum := "ac82185603f21648f5902b4bd1a822fe78d1ce388c447d4992909b1b86ca824e", func := "bale/balelaw.Bests", spec := "bests", unfollowed := true, recurses := true, apart := false }
def BestsSaid : Prop := bestsRow.holds Try.pinned (OpenSpec.ofChange bestsSpec)

/-- ITS FALSE NEIGHBOUR: 'it returns false'. Refute it at one input. -/
def bestsWrong : ChangeSpec := { name := "bests", fn := fun _ => fun
  | [d1, d2] => { results := [.lit (.bool false)], args := [d1, d2] }
  | _ => none }
def BestsWrongFalsely : Prop := bestsRow.holds Try.pinned (OpenSpec.ofChange bestsWrong)

/-- 'balekeep.Free': WHATEVER THE INPUT: true; the input reads as it did. -/
def freeSpec : ChangeSpec := { name := "free", fn := fun _ => fun
  | [d1, d2] => { results := [.lit (.bool true)], args := [d1, d2] }
  | _ => none }
def freeRow : OpenClaim := { program := "ythdmjmnkhlpnnaa", sum := "ac82185603f21648f5902b4bd1a822fe78d1ce388c447d4992909b1b86ca824e", func := "bale/balekeep.Free", spec := "free", unfollowed := true, recurses := true, apart := false }
def FreeSaid : Prop := freeRow.holds Try.pinned (OpenSpec.ofChange freeSpec)

/-- ITS FALSE NEIGHBOUR: 'it returns false'. Refute it at one input. -/
def freeWrong : ChangeSpec := { name := "free", fn := fun _ => fun
  | [d1, d2] => { results := [.lit (.bool false)], args := [d1, d2] }
  | _ => none }
def FreeWrongFalsely : Prop := freeRow.holds Try.pinned (OpenSpec.ofChange freeWrong)

/- THE SECOND FORM. 'bulk': how many values and letters a reading holds, each counted each time it is reached (what is shared counts as often as it is met; a slice's spare places count too). A statement '..UptoSaid' is the law's where the arguments, and the package variables that the reading takes, are together of bulk at most 1048576: NARROWER than '..Said'. Prove '..Said' where nothing that the law and all that it calls make is longer than what came in: it says more and counts as full. Else prove '..UptoSaid'. A law counts once. -/
mutual
def uptoBulk {H : Type} : DataW H → Nat
  | .lit (.string bytes) => bytes.length + 1
  | .lit _ => 1
  | .nil => 1
  | .ptr d => uptoBulk d + 1
  | .slice elems spare => uptoBulkAll elems + uptoBulkAll spare + 1
  | .agg parts => uptoBulkAll parts + 1
  | .iface _ d => uptoBulk d + 1
  | .map entries => uptoBulkEntries entries + 1
  | .held _ => 1
def uptoBulkAll {H : Type} : List (DataW H) → Nat
  | [] => 0
  | d :: r => uptoBulk d + uptoBulkAll r
def uptoBulkEntries {H : Type} : List (Lit × DataW H) → Nat
  | [] => 0
  | x :: r => uptoBulkEntry x + uptoBulkEntries r
def uptoBulkEntry {H : Type} : Lit × DataW H → Nat
  | (.string bytes, d) => bytes.length + uptoBulk d + 1
  | (_, d) => uptoBulk d + 1
 end
def uptoSmall : (H : Type) → List (DataW H) → Bool := fun _ ds => decide (uptoBulkAll ds ≤ 1048576)
def OpenSpec.upto (s : _root_.Go.ChangeSpec) : _root_.Go.OpenSpec := { _root_.Go.OpenSpec.ofChange s with cond := some uptoSmall }

/-- 'balelaw.Sums', WHERE WHAT IT READS IS OF BULK AT MOST 1048576: true; the input reads as it did. -/
def sumsUptoRow : OpenClaim := { program := "ythdmjmnkhlpnnaa", sum := "ac82185603f21648f5902b4bd1a822fe78d1ce388c447d4992909b1b86ca824e", func := "bale/balelaw.Sums", spec := "sums", unfollowed := true, recurses := true, apart := false, narrowed := true }
def SumsUptoSaid : Prop := sumsUptoRow.holds Try.pinned (OpenSpec.upto sumsSpec)

/-- 'balelaw.Bests', WHERE WHAT IT READS IS OF BULK AT MOST 1048576: true; the input reads as it did. -/
def bestsUptoRow : OpenClaim := { program := "ythdmjmnkhlpnnaa", sum := "ac82185603f21648f5902b4bd1a822fe78d1ce388c447d4992909b1b86ca824e", func := "bale/balelaw.Bests", spec := "bests", unfollowed := true, recurses := true, apart := false, narrowed := true }
def BestsUptoSaid : Prop := bestsUptoRow.holds Try.pinned (OpenSpec.upto bestsSpec)

/-- 'balekeep.Free', WHERE WHAT IT READS IS OF BULK AT MOST 1048576: true; the input reads as it did. -/
def freeUptoRow : OpenClaim := { program := "ythdmjmnkhlpnnaa", sum := "ac82185603f21648f5902b4bd1a822fe78d1ce388c447d4992909b1b86ca824e", func := "bale/balekeep.Free", spec := "free", unfollowed := true, recurses := true, apart := false, narrowed := true }
def FreeUptoSaid : Prop := freeUptoRow.holds Try.pinned (OpenSpec.upto freeSpec)

end Rows
end Go.Proofs.Ythdmjmnkhlpnnaa
