/-
  DERIVED. GIVEN WITH THE SEED: THE CARDS: each row of YtcbilopdeiapjaaGreatDoorRows.lean that lists a variable, with what it lists TIED to the program's text (the seventh form; the later family's looks); each row that meets fmt, with fmt's text TOLD by the authors' own Lean function (tested against real Go, not proved from fmt's source: count such statements apart). THE CARD IS WHAT COUNTS. Prove the row's statement (the work); the ties are given (YtcbilopdeiapjaaGreatDoorTie.lean); close each card by the builder's one call (the guide's Derived/Test/ToyasCard.lean, 'card_holds'). Laid BY PROGRAM, IN A SANDBOX (cutbox-door.mjs). By AI agents, Wed Nov 11 2026. No macro, syntax, notation, axiom, sorry.
-/
import Derived.Test.YtcbilopdeiapjaaGreatDoorRows
import GoSem.ClaimSeven
namespace Go.Proofs.YtcbilopdeiapjaaGreatDoor
namespace Rows

/-- THE TIED CARD OF 'chittylaw20.ThirdDischarges'. -/
def thirdDischargesCard : Claim7 := { stood := { row := thirdDischargesRow, standIns := [], harness := (true, "58b7d8426e8c208e05e3607dd4ae627586194169e61487e2c243023d2f8a79be"), looks := true }, kinds := [], alts := [], laidByText := true, laidKinds := [.data, .data, .data, .data, .data, .data, .sentinel, .sentinel, .pinned], laidTests := true, laidLooks := .later }
def ThirdDischargesCardSaid : Prop := Claim7.holds Tryz.pinned (.plain (OpenSpec.ofChange thirdDischargesSpec)) thirdDischargesCard

/-- THE TIED CARD OF 'chittylaw20.ThirdBack'. -/
def thirdBackCard : Claim7 := { stood := { row := thirdBackRow, standIns := [], harness := (true, "58b7d8426e8c208e05e3607dd4ae627586194169e61487e2c243023d2f8a79be"), looks := true }, kinds := [], alts := [], laidByText := true, laidKinds := [.data, .data, .data, .data, .data, .data, .sentinel, .sentinel, .pinned], laidTests := true, laidLooks := .later }
def ThirdBackCardSaid : Prop := Claim7.holds Tryz.pinned (.plain (OpenSpec.ofChange thirdBackSpec)) thirdBackCard

/-- THE SECOND FORM's CARD OF 'chittylaw20.ThirdDischarges'. -/
def thirdDischargesUptoCard : Claim7 := { stood := { row := thirdDischargesUptoRow, standIns := [], harness := (true, "58b7d8426e8c208e05e3607dd4ae627586194169e61487e2c243023d2f8a79be"), looks := true }, kinds := [], alts := [], laidByText := true, laidKinds := [.data, .data, .data, .data, .data, .data, .sentinel, .sentinel, .pinned], laidTests := true, laidLooks := .later }
def ThirdDischargesUptoCardSaid : Prop := Claim7.holds Tryz.pinned (.plain (OpenSpec.upto thirdDischargesSpec)) thirdDischargesUptoCard

/-- THE SECOND FORM's CARD OF 'chittylaw20.ThirdBack'. -/
def thirdBackUptoCard : Claim7 := { stood := { row := thirdBackUptoRow, standIns := [], harness := (true, "58b7d8426e8c208e05e3607dd4ae627586194169e61487e2c243023d2f8a79be"), looks := true }, kinds := [], alts := [], laidByText := true, laidKinds := [.data, .data, .data, .data, .data, .data, .sentinel, .sentinel, .pinned], laidTests := true, laidLooks := .later }
def ThirdBackUptoCardSaid : Prop := Claim7.holds Tryz.pinned (.plain (OpenSpec.upto thirdBackSpec)) thirdBackUptoCard
end Rows
end Go.Proofs.YtcbilopdeiapjaaGreatDoor
