/-
  NARROWER THAN 'FOR EVERY INPUT', by the rows' own cells (each row's printed sentence says how): Inflates: laid · Unframes: laid · Plain: laid.
  DERIVED. THE GIVEN ROWS OF THIS SEAT. 3 by the template 'for every input the law returns true; each argument reads behind the call as it read before'; 0 by the template 'total and deterministic' (their statements: YthdmjmnkhlpnnaaDoorTotals.lean).
  GIVEN WITH THE SEED: the statements are not yours to turn. If you find one false, say at which input.
  Laid BY PROGRAM, IN A SANDBOX (cutbox-rows.mjs): the forced cells as the released guide's own fill.sh prints them over the translation bebbf71432e6c961… (all of the seat's roots in one cut). By AI agents, Wed Nov 11 2026. No macro, syntax, notation, axiom, sorry.
-/
import Derived.Test.YthdmjmnkhlpnnaaDoorChecked
import GoSem.Claim
import GoSem.ClaimJoined
import GoSem.ClaimMapViews
import Derived.JoinedTies
import Derived.KernelRfl
namespace Go.Proofs.YthdmjmnkhlpnnaaDoor
/- THE CELL 'sum', in the pinned program and in every row, IS THE sha256 OF THE DUMP (.gsa) THAT YthdmjmnkhlpnnaaDoorProg.lean LOADS. Nothing in Lean hashes anything: it is a label: what it is worth is what the hold of that sum in a sandbox is worth. -/
noncomputable def Tryd.pinned : Pinned := { name := "ythdmjmnkhlpnnaadoor", sum := "bebbf71432e6c96169a591a86c4255e6a8b492d1ac5985657e775c0801488b8c", checked := Tryd.checked }
namespace Rows
def none {H : Type} : Left H := { results := [], args := [] }

/- WHAT THE LISTED PACKAGE-LEVEL VARIABLES READ AS WHEN THE CALL BEGINS. Each datum BY PROGRAM (the guide's laid-datum.mjs) off the statement by which the dump's own 'gosem.cut.vars' lays the variable. In a bare row this is a premise. The card (YthdmjmnkhlpnnaaDoorCards.lean) ties it to the program's text. -/
def laid_bale_format_order {H : Type} : DataW H := .agg [.lit (.int .i64 16), .lit (.int .i64 17), .lit (.int .i64 18), .lit (.int .i64 0), .lit (.int .i64 8), .lit (.int .i64 7), .lit (.int .i64 9), .lit (.int .i64 6), .lit (.int .i64 10), .lit (.int .i64 5), .lit (.int .i64 11), .lit (.int .i64 4), .lit (.int .i64 12), .lit (.int .i64 3), .lit (.int .i64 13), .lit (.int .i64 2), .lit (.int .i64 14), .lit (.int .i64 1), .lit (.int .i64 15)]
def laid_bale_pack_efforts {H : Type} : DataW H := .agg [.agg [.lit (.int .i64 4), .lit (.int .i64 1)], .agg [.lit (.int .i64 8), .lit (.int .i64 1)], .agg [.lit (.int .i64 16), .lit (.int .i64 1)], .agg [.lit (.int .i64 16), .lit (.int .i64 8)], .agg [.lit (.int .i64 32), .lit (.int .i64 16)], .agg [.lit (.int .i64 64), .lit (.int .i64 32)], .agg [.lit (.int .i64 128), .lit (.int .i64 64)], .agg [.lit (.int .i64 256), .lit (.int .i64 128)], .agg [.lit (.int .i64 512), .lit (.int .i64 258)]]

/-- 'balelaw.Inflates': WHATEVER THE INPUT: true; the input reads as it did. -/
def inflatesSpec : ChangeSpec := { name := "inflates", fn := fun _ => fun
  | [d1, d2] => { results := [.lit (.bool true)], args := [d1, d2] }
  | _ => none }
def inflatesRow : OpenClaim := { program := "ythdmjmnkhlpnnaadoor", sum := "bebbf71432e6c96169a591a86c4255e6a8b492d1ac5985657e775c0801488b8c", func := "bale/balelaw.Inflates", spec := "inflates", unfollowed := true, recurses := true, named := ["bale/format.order"], plainKeys := false, apart := false, laid := [("bale/format.order", laid_bale_format_order)] }
def InflatesSaid : Prop := inflatesRow.holds Tryd.pinned (OpenSpec.ofChange inflatesSpec)

/-- ITS FALSE NEIGHBOUR: 'it returns false'. Refute it at one input. -/
def inflatesWrong : ChangeSpec := { name := "inflates", fn := fun _ => fun
  | [d1, d2] => { results := [.lit (.bool false)], args := [d1, d2] }
  | _ => none }
def InflatesWrongFalsely : Prop := inflatesRow.holds Tryd.pinned (OpenSpec.ofChange inflatesWrong)

/-- 'balelaw.Unframes': WHATEVER THE INPUT: true; the input reads as it did. -/
def unframesSpec : ChangeSpec := { name := "unframes", fn := fun _ => fun
  | [d1, d2] => { results := [.lit (.bool true)], args := [d1, d2] }
  | _ => none }
def unframesRow : OpenClaim := { program := "ythdmjmnkhlpnnaadoor", sum := "bebbf71432e6c96169a591a86c4255e6a8b492d1ac5985657e775c0801488b8c", func := "bale/balelaw.Unframes", spec := "unframes", unfollowed := true, recurses := true, named := ["bale/format.order"], plainKeys := false, apart := false, laid := [("bale/format.order", laid_bale_format_order)] }
def UnframesSaid : Prop := unframesRow.holds Tryd.pinned (OpenSpec.ofChange unframesSpec)

/-- ITS FALSE NEIGHBOUR: 'it returns false'. Refute it at one input. -/
def unframesWrong : ChangeSpec := { name := "unframes", fn := fun _ => fun
  | [d1, d2] => { results := [.lit (.bool false)], args := [d1, d2] }
  | _ => none }
def UnframesWrongFalsely : Prop := unframesRow.holds Tryd.pinned (OpenSpec.ofChange unframesWrong)

/-- 'balekeep.Plain': WHATEVER THE INPUT: true; the input reads as it did. -/
def plainSpec : ChangeSpec := { name := "plain", fn := fun _ => fun
  | [d] => { results := [.lit (.bool true)], args := [d] }
  | _ => none }
def plainRow : OpenClaim := { program := "ythdmjmnkhlpnnaadoor", sum := "bebbf71432e6c96169a591a86c4255e6a8b492d1ac5985657e775c0801488b8c", func := "bale/balekeep.Plain", spec := "plain", unfollowed := true, recurses := true, named := ["bale/pack.efforts", "bale/format.order"], plainKeys := false, apart := false, laid := [("bale/format.order", laid_bale_format_order), ("bale/pack.efforts", laid_bale_pack_efforts)] }
def PlainSaid : Prop := plainRow.holds Tryd.pinned (OpenSpec.ofChange plainSpec)

/-- ITS FALSE NEIGHBOUR: 'it returns false'. Refute it at one input. -/
def plainWrong : ChangeSpec := { name := "plain", fn := fun _ => fun
  | [d] => { results := [.lit (.bool false)], args := [d] }
  | _ => none }
def PlainWrongFalsely : Prop := plainRow.holds Tryd.pinned (OpenSpec.ofChange plainWrong)

/- THE SECOND FORM. 'bulk': how many values and letters a reading holds, each counted each time it is reached (what is shared counts as often as it is met; a slice's spare places count too). A statement '..UptoSaid' is the law's where the arguments, and the package variables that the reading takes, are together of bulk at most 1048576: NARROWER than '..Said'. Prove '..Said' where nothing that the law and all that it calls make is longer than what came in: it says more and counts as full. Else prove '..UptoSaid'. A law counts once. -/
mutual
def uptoBulk {H : Type} : DataW H → Nat
  | .lit (.string bytes) => bytes.length + 1
  | .lit _ => 1
  | .nil => 1
  | .ptr d => uptoBulk d + 1
  | .slice elems spare => uptoBulkAll elems + uptoBulkAll spare + 1
  | .agg parts => uptoBulkAll parts + 1
  | .iface _ d => uptoBulk d + 1
  | .map entries => uptoBulkEntries entries + 1
  | .held _ => 1
def uptoBulkAll {H : Type} : List (DataW H) → Nat
  | [] => 0
  | d :: r => uptoBulk d + uptoBulkAll r
def uptoBulkEntries {H : Type} : List (Lit × DataW H) → Nat
  | [] => 0
  | x :: r => uptoBulkEntry x + uptoBulkEntries r
def uptoBulkEntry {H : Type} : Lit × DataW H → Nat
  | (.string bytes, d) => bytes.length + uptoBulk d + 1
  | (_, d) => uptoBulk d + 1
 end
def uptoSmall : (H : Type) → List (DataW H) → Bool := fun _ ds => decide (uptoBulkAll ds ≤ 1048576)
def OpenSpec.upto (s : _root_.Go.ChangeSpec) : _root_.Go.OpenSpec := { _root_.Go.OpenSpec.ofChange s with cond := some uptoSmall }

/-- 'balelaw.Inflates', WHERE WHAT IT READS IS OF BULK AT MOST 1048576: true; the input reads as it did. -/
def inflatesUptoRow : OpenClaim := { program := "ythdmjmnkhlpnnaadoor", sum := "bebbf71432e6c96169a591a86c4255e6a8b492d1ac5985657e775c0801488b8c", func := "bale/balelaw.Inflates", spec := "inflates", unfollowed := true, recurses := true, named := ["bale/format.order"], plainKeys := false, apart := false, laid := [("bale/format.order", laid_bale_format_order)], narrowed := true }
def InflatesUptoSaid : Prop := inflatesUptoRow.holds Tryd.pinned (OpenSpec.upto inflatesSpec)

/-- 'balelaw.Unframes', WHERE WHAT IT READS IS OF BULK AT MOST 1048576: true; the input reads as it did. -/
def unframesUptoRow : OpenClaim := { program := "ythdmjmnkhlpnnaadoor", sum := "bebbf71432e6c96169a591a86c4255e6a8b492d1ac5985657e775c0801488b8c", func := "bale/balelaw.Unframes", spec := "unframes", unfollowed := true, recurses := true, named := ["bale/format.order"], plainKeys := false, apart := false, laid := [("bale/format.order", laid_bale_format_order)], narrowed := true }
def UnframesUptoSaid : Prop := unframesUptoRow.holds Tryd.pinned (OpenSpec.upto unframesSpec)

/-- 'balekeep.Plain', WHERE WHAT IT READS IS OF BULK AT MOST 1048576: true; the input reads as it did. -/
def plainUptoRow : OpenClaim := { program := "ythdmjmnkhlpnnaadoor", sum := "bebbf71432e6c96169a591a86c4255e6a8b492d1ac5985657e775c0801488b8c", func := "bale/balekeep.Plain", spec := "plain", unfollowed := true, recurses := true, named := ["bale/pack.efforts", "bale/format.order"], plainKeys := false, apart := false, laid := [("bale/format.order", laid_bale_format_order), ("bale/pack.efforts", laid_bale_pack_efforts)], narrowed := true }
def PlainUptoSaid : Prop := plainUptoRow.holds Tryd.pinned (OpenSpec.upto plainSpec)

end Rows
end Go.Proofs.YthdmjmnkhlpnnaaDoor
