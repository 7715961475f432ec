/-
  NARROWER THAN 'FOR EVERY INPUT', by the rows' own cells (each row's printed sentence says how): Packs: laid · Round: laid · Cut: laid · Spoiled: laid · Short: laid · Streams: laid.
  DERIVED. THE GIVEN ROWS OF THIS SEAT. 6 by the template 'for every input the law returns true; each argument reads behind the call as it read before'; 0 by the template 'total and deterministic' (their statements: YthdmjmnkhlpnnaaGreatDoorTotals.lean).
  GIVEN WITH THE SEED: the statements are not yours to turn. If you find one false, say at which input.
  Laid BY PROGRAM, IN A SANDBOX (cutbox-rows.mjs): the forced cells as the released guide's own fill.sh prints them over the translation 91c907267041ab4f… (all of the seat's roots in one cut). By AI agents, Wed Nov 11 2026. No macro, syntax, notation, axiom, sorry.
-/
import Derived.Test.YthdmjmnkhlpnnaaGreatDoorChecked
import GoSem.Claim
import GoSem.ClaimJoined
import GoSem.ClaimMapViews
import Derived.JoinedTies
import Derived.KernelRfl
namespace Go.Proofs.YthdmjmnkhlpnnaaGreatDoor
/- THE CELL 'sum', in the pinned program and in every row, IS THE sha256 OF THE DUMP (.gsa) THAT YthdmjmnkhlpnnaaGreatDoorProg.lean LOADS. Nothing in Lean hashes anything: it is a label: what it is worth is what the hold of that sum in a sandbox is worth. -/
noncomputable def Tryz.pinned : Pinned := { name := "ythdmjmnkhlpnnaagreatdoor", sum := "91c907267041ab4fabf6f38d3c7e3e41926a4a63adb35fe2dee022805a548846", checked := Tryz.checked }
namespace Rows
def none {H : Type} : Left H := { results := [], args := [] }

/- WHAT THE LISTED PACKAGE-LEVEL VARIABLES READ AS WHEN THE CALL BEGINS. Each datum BY PROGRAM (the guide's laid-datum.mjs) off the statement by which the dump's own 'gosem.cut.vars' lays the variable. In a bare row this is a premise. The card (YthdmjmnkhlpnnaaGreatDoorCards.lean) ties it to the program's text. -/
def laid_bale_format_order {H : Type} : DataW H := .agg [.lit (.int .i64 16), .lit (.int .i64 17), .lit (.int .i64 18), .lit (.int .i64 0), .lit (.int .i64 8), .lit (.int .i64 7), .lit (.int .i64 9), .lit (.int .i64 6), .lit (.int .i64 10), .lit (.int .i64 5), .lit (.int .i64 11), .lit (.int .i64 4), .lit (.int .i64 12), .lit (.int .i64 3), .lit (.int .i64 13), .lit (.int .i64 2), .lit (.int .i64 14), .lit (.int .i64 1), .lit (.int .i64 15)]
def laid_bale_pack_efforts {H : Type} : DataW H := .agg [.agg [.lit (.int .i64 4), .lit (.int .i64 1)], .agg [.lit (.int .i64 8), .lit (.int .i64 1)], .agg [.lit (.int .i64 16), .lit (.int .i64 1)], .agg [.lit (.int .i64 16), .lit (.int .i64 8)], .agg [.lit (.int .i64 32), .lit (.int .i64 16)], .agg [.lit (.int .i64 64), .lit (.int .i64 32)], .agg [.lit (.int .i64 128), .lit (.int .i64 64)], .agg [.lit (.int .i64 256), .lit (.int .i64 128)], .agg [.lit (.int .i64 512), .lit (.int .i64 258)]]

/-- 'balelaw.Packs': WHATEVER THE INPUT: true; the input reads as it did. -/
def packsSpec : ChangeSpec := { name := "packs", fn := fun _ => fun
  | [d1, d2] => { results := [.lit (.bool true)], args := [d1, d2] }
  | _ => none }
def packsRow : OpenClaim := { program := "ythdmjmnkhlpnnaagreatdoor", sum := "91c907267041ab4fabf6f38d3c7e3e41926a4a63adb35fe2dee022805a548846", func := "bale/balelaw.Packs", spec := "packs", unfollowed := true, recurses := true, named := ["bale/pack.efforts", "bale/format.order"], plainKeys := false, apart := false, laid := [("bale/format.order", laid_bale_format_order), ("bale/pack.efforts", laid_bale_pack_efforts)] }
def PacksSaid : Prop := packsRow.holds Tryz.pinned (OpenSpec.ofChange packsSpec)

/-- ITS FALSE NEIGHBOUR: 'it returns false'. Refute it at one input. -/
def packsWrong : ChangeSpec := { name := "packs", fn := fun _ => fun
  | [d1, d2] => { results := [.lit (.bool false)], args := [d1, d2] }
  | _ => none }
def PacksWrongFalsely : Prop := packsRow.holds Tryz.pinned (OpenSpec.ofChange packsWrong)

/-- 'balekeep.Round': WHATEVER THE INPUT: true; the input reads as it did. -/
def roundSpec : ChangeSpec := { name := "round", fn := fun _ => fun
  | [d1, d2, d3] => { results := [.lit (.bool true)], args := [d1, d2, d3] }
  | _ => none }
def roundRow : OpenClaim := { program := "ythdmjmnkhlpnnaagreatdoor", sum := "91c907267041ab4fabf6f38d3c7e3e41926a4a63adb35fe2dee022805a548846", func := "bale/balekeep.Round", spec := "round", unfollowed := true, recurses := true, named := ["bale/pack.efforts", "bale/format.order"], plainKeys := false, apart := false, laid := [("bale/format.order", laid_bale_format_order), ("bale/pack.efforts", laid_bale_pack_efforts)] }
def RoundSaid : Prop := roundRow.holds Tryz.pinned (OpenSpec.ofChange roundSpec)

/-- ITS FALSE NEIGHBOUR: 'it returns false'. Refute it at one input. -/
def roundWrong : ChangeSpec := { name := "round", fn := fun _ => fun
  | [d1, d2, d3] => { results := [.lit (.bool false)], args := [d1, d2, d3] }
  | _ => none }
def RoundWrongFalsely : Prop := roundRow.holds Tryz.pinned (OpenSpec.ofChange roundWrong)

/-- 'balekeep.Cut': WHATEVER THE INPUT: true; the input reads as it did. -/
def cutSpec : ChangeSpec := { name := "cut", fn := fun _ => fun
  | [d1, d2, d3, d4] => { results := [.lit (.bool true)], args := [d1, d2, d3, d4] }
  | _ => none }
def cutRow : OpenClaim := { program := "ythdmjmnkhlpnnaagreatdoor", sum := "91c907267041ab4fabf6f38d3c7e3e41926a4a63adb35fe2dee022805a548846", func := "bale/balekeep.Cut", spec := "cut", unfollowed := true, recurses := true, named := ["bale/pack.efforts", "bale/format.order"], plainKeys := false, apart := false, laid := [("bale/format.order", laid_bale_format_order), ("bale/pack.efforts", laid_bale_pack_efforts)] }
def CutSaid : Prop := cutRow.holds Tryz.pinned (OpenSpec.ofChange cutSpec)

/-- ITS FALSE NEIGHBOUR: 'it returns false'. Refute it at one input. -/
def cutWrong : ChangeSpec := { name := "cut", fn := fun _ => fun
  | [d1, d2, d3, d4] => { results := [.lit (.bool false)], args := [d1, d2, d3, d4] }
  | _ => none }
def CutWrongFalsely : Prop := cutRow.holds Tryz.pinned (OpenSpec.ofChange cutWrong)

/-- 'balekeep.Spoiled': WHATEVER THE INPUT: true; the input reads as it did. -/
def spoiledSpec : ChangeSpec := { name := "spoiled", fn := fun _ => fun
  | [d1, d2, d3, d4, d5] => { results := [.lit (.bool true)], args := [d1, d2, d3, d4, d5] }
  | _ => none }
def spoiledRow : OpenClaim := { program := "ythdmjmnkhlpnnaagreatdoor", sum := "91c907267041ab4fabf6f38d3c7e3e41926a4a63adb35fe2dee022805a548846", func := "bale/balekeep.Spoiled", spec := "spoiled", unfollowed := true, recurses := true, named := ["bale/pack.efforts", "bale/format.order"], plainKeys := false, apart := false, laid := [("bale/format.order", laid_bale_format_order), ("bale/pack.efforts", laid_bale_pack_efforts)] }
def SpoiledSaid : Prop := spoiledRow.holds Tryz.pinned (OpenSpec.ofChange spoiledSpec)

/-- ITS FALSE NEIGHBOUR: 'it returns false'. Refute it at one input. -/
def spoiledWrong : ChangeSpec := { name := "spoiled", fn := fun _ => fun
  | [d1, d2, d3, d4, d5] => { results := [.lit (.bool false)], args := [d1, d2, d3, d4, d5] }
  | _ => none }
def SpoiledWrongFalsely : Prop := spoiledRow.holds Tryz.pinned (OpenSpec.ofChange spoiledWrong)

/-- 'balekeep.Short': WHATEVER THE INPUT: true; the input reads as it did. -/
def shortSpec : ChangeSpec := { name := "short", fn := fun _ => fun
  | [d1, d2, d3] => { results := [.lit (.bool true)], args := [d1, d2, d3] }
  | _ => none }
def shortRow : OpenClaim := { program := "ythdmjmnkhlpnnaagreatdoor", sum := "91c907267041ab4fabf6f38d3c7e3e41926a4a63adb35fe2dee022805a548846", func := "bale/balekeep.Short", spec := "short", unfollowed := true, recurses := true, named := ["bale/pack.efforts", "bale/format.order"], plainKeys := false, apart := false, laid := [("bale/format.order", laid_bale_format_order), ("bale/pack.efforts", laid_bale_pack_efforts)] }
def ShortSaid : Prop := shortRow.holds Tryz.pinned (OpenSpec.ofChange shortSpec)

/-- ITS FALSE NEIGHBOUR: 'it returns false'. Refute it at one input. -/
def shortWrong : ChangeSpec := { name := "short", fn := fun _ => fun
  | [d1, d2, d3] => { results := [.lit (.bool false)], args := [d1, d2, d3] }
  | _ => none }
def ShortWrongFalsely : Prop := shortRow.holds Tryz.pinned (OpenSpec.ofChange shortWrong)

/-- 'balelaw.Streams': WHATEVER THE INPUT: true; the input reads as it did. -/
def streamsSpec : ChangeSpec := { name := "streams", fn := fun _ => fun
  | [d1, d2] => { results := [.lit (.bool true)], args := [d1, d2] }
  | _ => none }
def streamsRow : OpenClaim := { program := "ythdmjmnkhlpnnaagreatdoor", sum := "91c907267041ab4fabf6f38d3c7e3e41926a4a63adb35fe2dee022805a548846", func := "bale/balelaw.Streams", spec := "streams", inPlace := ["(*internal/sync.Mutex).Lock", "internal/race.Disable", "sync/atomic.CompareAndSwapInt32", "internal/race.Enable", "internal/race.Acquire", "(*internal/sync.Mutex).lockSlow", "internal/sync.runtime_canSpin", "internal/sync.runtime_doSpin", "internal/sync.throw", "internal/sync.runtime_nanotime", "internal/sync.runtime_SemacquireMutex", "sync/atomic.AddInt32", "(*internal/sync.Mutex).Unlock", "internal/race.ReleaseMerge", "(*internal/sync.Mutex).unlockSlow", "internal/sync.fatal", "internal/sync.runtime_Semrelease"], unfollowed := true, recurses := true, named := ["bale/pack.efforts", "bale/format.order"], plainKeys := false, apart := false, laid := [("bale/format.order", laid_bale_format_order), ("bale/pack.efforts", laid_bale_pack_efforts)] }
def StreamsSaid : Prop := streamsRow.holds Tryz.pinned (OpenSpec.ofChange streamsSpec)

/-- ITS FALSE NEIGHBOUR: 'it returns false'. Refute it at one input. -/
def streamsWrong : ChangeSpec := { name := "streams", fn := fun _ => fun
  | [d1, d2] => { results := [.lit (.bool false)], args := [d1, d2] }
  | _ => none }
def StreamsWrongFalsely : Prop := streamsRow.holds Tryz.pinned (OpenSpec.ofChange streamsWrong)

/- THE SECOND FORM. 'bulk': how many values and letters a reading holds, each counted each time it is reached (what is shared counts as often as it is met; a slice's spare places count too). A statement '..UptoSaid' is the law's where the arguments, and the package variables that the reading takes, are together of bulk at most 1048576: NARROWER than '..Said'. Prove '..Said' where nothing that the law and all that it calls make is longer than what came in: it says more and counts as full. Else prove '..UptoSaid'. A law counts once. -/
mutual
def uptoBulk {H : Type} : DataW H → Nat
  | .lit (.string bytes) => bytes.length + 1
  | .lit _ => 1
  | .nil => 1
  | .ptr d => uptoBulk d + 1
  | .slice elems spare => uptoBulkAll elems + uptoBulkAll spare + 1
  | .agg parts => uptoBulkAll parts + 1
  | .iface _ d => uptoBulk d + 1
  | .map entries => uptoBulkEntries entries + 1
  | .held _ => 1
def uptoBulkAll {H : Type} : List (DataW H) → Nat
  | [] => 0
  | d :: r => uptoBulk d + uptoBulkAll r
def uptoBulkEntries {H : Type} : List (Lit × DataW H) → Nat
  | [] => 0
  | x :: r => uptoBulkEntry x + uptoBulkEntries r
def uptoBulkEntry {H : Type} : Lit × DataW H → Nat
  | (.string bytes, d) => bytes.length + uptoBulk d + 1
  | (_, d) => uptoBulk d + 1
 end
def uptoSmall : (H : Type) → List (DataW H) → Bool := fun _ ds => decide (uptoBulkAll ds ≤ 1048576)
def OpenSpec.upto (s : _root_.Go.ChangeSpec) : _root_.Go.OpenSpec := { _root_.Go.OpenSpec.ofChange s with cond := some uptoSmall }

/-- 'balelaw.Packs', WHERE WHAT IT READS IS OF BULK AT MOST 1048576: true; the input reads as it did. -/
def packsUptoRow : OpenClaim := { program := "ythdmjmnkhlpnnaagreatdoor", sum := "91c907267041ab4fabf6f38d3c7e3e41926a4a63adb35fe2dee022805a548846", func := "bale/balelaw.Packs", spec := "packs", unfollowed := true, recurses := true, named := ["bale/pack.efforts", "bale/format.order"], plainKeys := false, apart := false, laid := [("bale/format.order", laid_bale_format_order), ("bale/pack.efforts", laid_bale_pack_efforts)], narrowed := true }
def PacksUptoSaid : Prop := packsUptoRow.holds Tryz.pinned (OpenSpec.upto packsSpec)

/-- 'balekeep.Round', WHERE WHAT IT READS IS OF BULK AT MOST 1048576: true; the input reads as it did. -/
def roundUptoRow : OpenClaim := { program := "ythdmjmnkhlpnnaagreatdoor", sum := "91c907267041ab4fabf6f38d3c7e3e41926a4a63adb35fe2dee022805a548846", func := "bale/balekeep.Round", spec := "round", unfollowed := true, recurses := true, named := ["bale/pack.efforts", "bale/format.order"], plainKeys := false, apart := false, laid := [("bale/format.order", laid_bale_format_order), ("bale/pack.efforts", laid_bale_pack_efforts)], narrowed := true }
def RoundUptoSaid : Prop := roundUptoRow.holds Tryz.pinned (OpenSpec.upto roundSpec)

/-- 'balekeep.Cut', WHERE WHAT IT READS IS OF BULK AT MOST 1048576: true; the input reads as it did. -/
def cutUptoRow : OpenClaim := { program := "ythdmjmnkhlpnnaagreatdoor", sum := "91c907267041ab4fabf6f38d3c7e3e41926a4a63adb35fe2dee022805a548846", func := "bale/balekeep.Cut", spec := "cut", unfollowed := true, recurses := true, named := ["bale/pack.efforts", "bale/format.order"], plainKeys := false, apart := false, laid := [("bale/format.order", laid_bale_format_order), ("bale/pack.efforts", laid_bale_pack_efforts)], narrowed := true }
def CutUptoSaid : Prop := cutUptoRow.holds Tryz.pinned (OpenSpec.upto cutSpec)

/-- 'balekeep.Spoiled', WHERE WHAT IT READS IS OF BULK AT MOST 1048576: true; the input reads as it did. -/
def spoiledUptoRow : OpenClaim := { program := "ythdmjmnkhlpnnaagreatdoor", sum := "91c907267041ab4fabf6f38d3c7e3e41926a4a63adb35fe2dee022805a548846", func := "bale/balekeep.Spoiled", spec := "spoiled", unfollowed := true, recurses := true, named := ["bale/pack.efforts", "bale/format.order"], plainKeys := false, apart := false, laid := [("bale/format.order", laid_bale_format_order), ("bale/pack.efforts", laid_bale_pack_efforts)], narrowed := true }
def SpoiledUptoSaid : Prop := spoiledUptoRow.holds Tryz.pinned (OpenSpec.upto spoiledSpec)

/-- 'balekeep.Short', WHERE WHAT IT READS IS OF BULK AT MOST 1048576: true; the input reads as it did. -/
def shortUptoRow : OpenClaim := { program := "ythdmjmnkhlpnnaagreatdoor", sum := "91c907267041ab4fabf6f38d3c7e3e41926a4a63adb35fe2dee022805a548846", func := "bale/balekeep.Short", spec := "short", unfollowed := true, recurses := true, named := ["bale/pack.efforts", "bale/format.order"], plainKeys := false, apart := false, laid := [("bale/format.order", laid_bale_format_order), ("bale/pack.efforts", laid_bale_pack_efforts)], narrowed := true }
def ShortUptoSaid : Prop := shortUptoRow.holds Tryz.pinned (OpenSpec.upto shortSpec)

/-- 'balelaw.Streams', WHERE WHAT IT READS IS OF BULK AT MOST 1048576: true; the input reads as it did. -/
def streamsUptoRow : OpenClaim := { program := "ythdmjmnkhlpnnaagreatdoor", sum := "91c907267041ab4fabf6f38d3c7e3e41926a4a63adb35fe2dee022805a548846", func := "bale/balelaw.Streams", spec := "streams", inPlace := ["(*internal/sync.Mutex).Lock", "internal/race.Disable", "sync/atomic.CompareAndSwapInt32", "internal/race.Enable", "internal/race.Acquire", "(*internal/sync.Mutex).lockSlow", "internal/sync.runtime_canSpin", "internal/sync.runtime_doSpin", "internal/sync.throw", "internal/sync.runtime_nanotime", "internal/sync.runtime_SemacquireMutex", "sync/atomic.AddInt32", "(*internal/sync.Mutex).Unlock", "internal/race.ReleaseMerge", "(*internal/sync.Mutex).unlockSlow", "internal/sync.fatal", "internal/sync.runtime_Semrelease"], unfollowed := true, recurses := true, named := ["bale/pack.efforts", "bale/format.order"], plainKeys := false, apart := false, laid := [("bale/format.order", laid_bale_format_order), ("bale/pack.efforts", laid_bale_pack_efforts)], narrowed := true }
def StreamsUptoSaid : Prop := streamsUptoRow.holds Tryz.pinned (OpenSpec.upto streamsSpec)

end Rows
end Go.Proofs.YthdmjmnkhlpnnaaGreatDoor
