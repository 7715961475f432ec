/-
  DERIVED. GIVEN WITH THE SEED: THE CARDS: each row of YthdmjmnkhlpnnaaGreatDoorRows.lean that lists a variable, with what it lists TIED to the program's text (the seventh form; the later family's looks); each row that meets fmt, with fmt's text TOLD by the authors' own Lean function (tested against real Go, not proved from fmt's source: count such statements apart). THE CARD IS WHAT COUNTS. Prove the row's statement (the work); the ties are given (YthdmjmnkhlpnnaaGreatDoorTie.lean); close each card by the builder's one call (the guide's Derived/Test/ToyasCard.lean, 'card_holds'). Laid BY PROGRAM, IN A SANDBOX (cutbox-door.mjs). By AI agents, Wed Nov 11 2026. No macro, syntax, notation, axiom, sorry.
-/
import Derived.Test.YthdmjmnkhlpnnaaGreatDoorRows
import GoSem.ClaimSeven
namespace Go.Proofs.YthdmjmnkhlpnnaaGreatDoor
namespace Rows

/-- THE TIED CARD OF 'balelaw.Packs'. -/
def packsCard : Claim7 := { stood := { row := packsRow, standIns := [], harness := (true, "a4000811a7aec920bf83592103c0ee47fe8f74fb8e01fd8f1d544e9bc0eba384"), looks := true }, kinds := [], alts := [], laidByText := true, laidKinds := [.data, .data], laidTests := true, laidLooks := .later }
def PacksCardSaid : Prop := Claim7.holds Tryz.pinned (.plain (OpenSpec.ofChange packsSpec)) packsCard

/-- THE TIED CARD OF 'balekeep.Round'. -/
def roundCard : Claim7 := { stood := { row := roundRow, standIns := [], harness := (true, "a4000811a7aec920bf83592103c0ee47fe8f74fb8e01fd8f1d544e9bc0eba384"), looks := true }, kinds := [], alts := [], laidByText := true, laidKinds := [.data, .data], laidTests := true, laidLooks := .later }
def RoundCardSaid : Prop := Claim7.holds Tryz.pinned (.plain (OpenSpec.ofChange roundSpec)) roundCard

/-- THE TIED CARD OF 'balekeep.Cut'. -/
def cutCard : Claim7 := { stood := { row := cutRow, standIns := [], harness := (true, "a4000811a7aec920bf83592103c0ee47fe8f74fb8e01fd8f1d544e9bc0eba384"), looks := true }, kinds := [], alts := [], laidByText := true, laidKinds := [.data, .data], laidTests := true, laidLooks := .later }
def CutCardSaid : Prop := Claim7.holds Tryz.pinned (.plain (OpenSpec.ofChange cutSpec)) cutCard

/-- THE TIED CARD OF 'balekeep.Spoiled'. -/
def spoiledCard : Claim7 := { stood := { row := spoiledRow, standIns := [], harness := (true, "a4000811a7aec920bf83592103c0ee47fe8f74fb8e01fd8f1d544e9bc0eba384"), looks := true }, kinds := [], alts := [], laidByText := true, laidKinds := [.data, .data], laidTests := true, laidLooks := .later }
def SpoiledCardSaid : Prop := Claim7.holds Tryz.pinned (.plain (OpenSpec.ofChange spoiledSpec)) spoiledCard

/-- THE TIED CARD OF 'balekeep.Short'. -/
def shortCard : Claim7 := { stood := { row := shortRow, standIns := [], harness := (true, "a4000811a7aec920bf83592103c0ee47fe8f74fb8e01fd8f1d544e9bc0eba384"), looks := true }, kinds := [], alts := [], laidByText := true, laidKinds := [.data, .data], laidTests := true, laidLooks := .later }
def ShortCardSaid : Prop := Claim7.holds Tryz.pinned (.plain (OpenSpec.ofChange shortSpec)) shortCard

/-- THE TIED CARD OF 'balelaw.Streams'. -/
def streamsCard : Claim7 := { stood := { row := streamsRow, standIns := [], harness := (true, "a4000811a7aec920bf83592103c0ee47fe8f74fb8e01fd8f1d544e9bc0eba384"), looks := true }, kinds := [], alts := [], laidByText := true, laidKinds := [.data, .data], laidTests := true, laidLooks := .later }
def StreamsCardSaid : Prop := Claim7.holds Tryz.pinned (.plain (OpenSpec.ofChange streamsSpec)) streamsCard

/-- THE SECOND FORM's CARD OF 'balelaw.Packs'. -/
def packsUptoCard : Claim7 := { stood := { row := packsUptoRow, standIns := [], harness := (true, "a4000811a7aec920bf83592103c0ee47fe8f74fb8e01fd8f1d544e9bc0eba384"), looks := true }, kinds := [], alts := [], laidByText := true, laidKinds := [.data, .data], laidTests := true, laidLooks := .later }
def PacksUptoCardSaid : Prop := Claim7.holds Tryz.pinned (.plain (OpenSpec.upto packsSpec)) packsUptoCard

/-- THE SECOND FORM's CARD OF 'balekeep.Round'. -/
def roundUptoCard : Claim7 := { stood := { row := roundUptoRow, standIns := [], harness := (true, "a4000811a7aec920bf83592103c0ee47fe8f74fb8e01fd8f1d544e9bc0eba384"), looks := true }, kinds := [], alts := [], laidByText := true, laidKinds := [.data, .data], laidTests := true, laidLooks := .later }
def RoundUptoCardSaid : Prop := Claim7.holds Tryz.pinned (.plain (OpenSpec.upto roundSpec)) roundUptoCard

/-- THE SECOND FORM's CARD OF 'balekeep.Cut'. -/
def cutUptoCard : Claim7 := { stood := { row := cutUptoRow, standIns := [], harness := (true, "a4000811a7aec920bf83592103c0ee47fe8f74fb8e01fd8f1d544e9bc0eba384"), looks := true }, kinds := [], alts := [], laidByText := true, laidKinds := [.data, .data], laidTests := true, laidLooks := .later }
def CutUptoCardSaid : Prop := Claim7.holds Tryz.pinned (.plain (OpenSpec.upto cutSpec)) cutUptoCard

/-- THE SECOND FORM's CARD OF 'balekeep.Spoiled'. -/
def spoiledUptoCard : Claim7 := { stood := { row := spoiledUptoRow, standIns := [], harness := (true, "a4000811a7aec920bf83592103c0ee47fe8f74fb8e01fd8f1d544e9bc0eba384"), looks := true }, kinds := [], alts := [], laidByText := true, laidKinds := [.data, .data], laidTests := true, laidLooks := .later }
def SpoiledUptoCardSaid : Prop := Claim7.holds Tryz.pinned (.plain (OpenSpec.upto spoiledSpec)) spoiledUptoCard

/-- THE SECOND FORM's CARD OF 'balekeep.Short'. -/
def shortUptoCard : Claim7 := { stood := { row := shortUptoRow, standIns := [], harness := (true, "a4000811a7aec920bf83592103c0ee47fe8f74fb8e01fd8f1d544e9bc0eba384"), looks := true }, kinds := [], alts := [], laidByText := true, laidKinds := [.data, .data], laidTests := true, laidLooks := .later }
def ShortUptoCardSaid : Prop := Claim7.holds Tryz.pinned (.plain (OpenSpec.upto shortSpec)) shortUptoCard

/-- THE SECOND FORM's CARD OF 'balelaw.Streams'. -/
def streamsUptoCard : Claim7 := { stood := { row := streamsUptoRow, standIns := [], harness := (true, "a4000811a7aec920bf83592103c0ee47fe8f74fb8e01fd8f1d544e9bc0eba384"), looks := true }, kinds := [], alts := [], laidByText := true, laidKinds := [.data, .data], laidTests := true, laidLooks := .later }
def StreamsUptoCardSaid : Prop := Claim7.holds Tryz.pinned (.plain (OpenSpec.upto streamsSpec)) streamsUptoCard
end Rows
end Go.Proofs.YthdmjmnkhlpnnaaGreatDoor
