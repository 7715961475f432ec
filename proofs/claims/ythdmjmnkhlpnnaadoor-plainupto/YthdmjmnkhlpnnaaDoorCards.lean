/-
  DERIVED. GIVEN WITH THE SEED: THE CARDS: each row of YthdmjmnkhlpnnaaDoorRows.lean that lists a variable, with what it lists TIED to the program's text (the seventh form; the later family's looks); each row that meets fmt, with fmt's text TOLD by the authors' own Lean function (tested against real Go, not proved from fmt's source: count such statements apart). THE CARD IS WHAT COUNTS. Prove the row's statement (the work); the ties are given (YthdmjmnkhlpnnaaDoorTie.lean); close each card by the builder's one call (the guide's Derived/Test/ToyasCard.lean, 'card_holds'). Laid BY PROGRAM, IN A SANDBOX (cutbox-door.mjs). By AI agents, Wed Nov 11 2026. No macro, syntax, notation, axiom, sorry.
-/
import Derived.Test.YthdmjmnkhlpnnaaDoorRows
import GoSem.ClaimSeven
namespace Go.Proofs.YthdmjmnkhlpnnaaDoor
namespace Rows

/-- THE TIED CARD OF 'balelaw.Inflates'. -/
def inflatesCard : Claim7 := { stood := { row := inflatesRow, standIns := [], harness := (true, "6b9d0ae949f0ed02d215a2bfd4b93bf4c050f97a3c95ec3444122d51db6e8450"), looks := true }, kinds := [], alts := [], laidByText := true, laidKinds := [.data], laidTests := true, laidLooks := .later }
def InflatesCardSaid : Prop := Claim7.holds Tryd.pinned (.plain (OpenSpec.ofChange inflatesSpec)) inflatesCard

/-- THE TIED CARD OF 'balelaw.Unframes'. -/
def unframesCard : Claim7 := { stood := { row := unframesRow, standIns := [], harness := (true, "6b9d0ae949f0ed02d215a2bfd4b93bf4c050f97a3c95ec3444122d51db6e8450"), looks := true }, kinds := [], alts := [], laidByText := true, laidKinds := [.data], laidTests := true, laidLooks := .later }
def UnframesCardSaid : Prop := Claim7.holds Tryd.pinned (.plain (OpenSpec.ofChange unframesSpec)) unframesCard

/-- THE TIED CARD OF 'balekeep.Plain'. -/
def plainCard : Claim7 := { stood := { row := plainRow, standIns := [], harness := (true, "6b9d0ae949f0ed02d215a2bfd4b93bf4c050f97a3c95ec3444122d51db6e8450"), looks := true }, kinds := [], alts := [], laidByText := true, laidKinds := [.data, .data], laidTests := true, laidLooks := .later }
def PlainCardSaid : Prop := Claim7.holds Tryd.pinned (.plain (OpenSpec.ofChange plainSpec)) plainCard

/-- THE SECOND FORM's CARD OF 'balelaw.Inflates'. -/
def inflatesUptoCard : Claim7 := { stood := { row := inflatesUptoRow, standIns := [], harness := (true, "6b9d0ae949f0ed02d215a2bfd4b93bf4c050f97a3c95ec3444122d51db6e8450"), looks := true }, kinds := [], alts := [], laidByText := true, laidKinds := [.data], laidTests := true, laidLooks := .later }
def InflatesUptoCardSaid : Prop := Claim7.holds Tryd.pinned (.plain (OpenSpec.upto inflatesSpec)) inflatesUptoCard

/-- THE SECOND FORM's CARD OF 'balelaw.Unframes'. -/
def unframesUptoCard : Claim7 := { stood := { row := unframesUptoRow, standIns := [], harness := (true, "6b9d0ae949f0ed02d215a2bfd4b93bf4c050f97a3c95ec3444122d51db6e8450"), looks := true }, kinds := [], alts := [], laidByText := true, laidKinds := [.data], laidTests := true, laidLooks := .later }
def UnframesUptoCardSaid : Prop := Claim7.holds Tryd.pinned (.plain (OpenSpec.upto unframesSpec)) unframesUptoCard

/-- THE SECOND FORM's CARD OF 'balekeep.Plain'. -/
def plainUptoCard : Claim7 := { stood := { row := plainUptoRow, standIns := [], harness := (true, "6b9d0ae949f0ed02d215a2bfd4b93bf4c050f97a3c95ec3444122d51db6e8450"), looks := true }, kinds := [], alts := [], laidByText := true, laidKinds := [.data, .data], laidTests := true, laidLooks := .later }
def PlainUptoCardSaid : Prop := Claim7.holds Tryd.pinned (.plain (OpenSpec.upto plainSpec)) plainUptoCard
end Rows
end Go.Proofs.YthdmjmnkhlpnnaaDoor
