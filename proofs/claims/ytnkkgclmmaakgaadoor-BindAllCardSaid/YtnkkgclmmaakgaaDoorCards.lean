/-
  DERIVED. GIVEN WITH THE SEED: THE CARDS: each row of YtnkkgclmmaakgaaDoorRows.lean that lists a variable, with what it lists TIED to the program's text (the seventh form; the later family's looks); each row that meets fmt, with fmt's text TOLD by the authors' own Lean function (tested against real Go, not proved from fmt's source: count such statements apart). THE CARD IS WHAT COUNTS. Prove the row's statement (the work); the ties are given (YtnkkgclmmaakgaaDoorTie.lean); close each card by the builder's one call (the guide's Derived/Test/ToyasCard.lean, 'card_holds'). Laid BY PROGRAM, IN A SANDBOX (cutbox-door.mjs). By AI agents, Wed Nov 11 2026. No macro, syntax, notation, axiom, sorry.
-/
import Derived.Test.YtnkkgclmmaakgaaDoorRows
import GoSem.ClaimSeven
namespace Go.Proofs.YtnkkgclmmaakgaaDoor
namespace Rows

/-- THE TIED CARD OF 'chittylaw21.BindTells'. -/
def bindTellsCard : Claim7 := { stood := { row := bindTellsRow, standIns := [], harness := (true, "7f15793bb291540d3b39af336cf08417733441ac032ab776ff8d4df693e3feaa"), looks := false }, kinds := [], alts := [], laidByText := true, laidKinds := [.data, .data], laidTests := true, laidLooks := .later }
def BindTellsCardSaid : Prop := Claim7.holds Tryd.pinned (.plain (OpenSpec.ofChange bindTellsSpec)) bindTellsCard

/-- THE TIED CARD OF 'chittylaw21.BindAll'. -/
def bindAllCard : Claim7 := { stood := { row := bindAllRow, standIns := [], harness := (true, "7f15793bb291540d3b39af336cf08417733441ac032ab776ff8d4df693e3feaa"), looks := false }, kinds := [], alts := [], laidByText := true, laidKinds := [.data, .data], laidTests := true, laidLooks := .later }
def BindAllCardSaid : Prop := Claim7.holds Tryd.pinned (.plain (OpenSpec.ofChange bindAllSpec)) bindAllCard

/-- THE TIED CARD OF 'chittylaw21.BindOne'. -/
def bindOneCard : Claim7 := { stood := { row := bindOneRow, standIns := [], harness := (true, "7f15793bb291540d3b39af336cf08417733441ac032ab776ff8d4df693e3feaa"), looks := false }, kinds := [], alts := [], laidByText := true, laidKinds := [.data, .data], laidTests := true, laidLooks := .later }
def BindOneCardSaid : Prop := Claim7.holds Tryd.pinned (.plain (OpenSpec.ofChange bindOneSpec)) bindOneCard

/-- THE SECOND FORM's CARD OF 'chittylaw21.BindTells'. -/
def bindTellsUptoCard : Claim7 := { stood := { row := bindTellsUptoRow, standIns := [], harness := (true, "7f15793bb291540d3b39af336cf08417733441ac032ab776ff8d4df693e3feaa"), looks := false }, kinds := [], alts := [], laidByText := true, laidKinds := [.data, .data], laidTests := true, laidLooks := .later }
def BindTellsUptoCardSaid : Prop := Claim7.holds Tryd.pinned (.plain (OpenSpec.upto bindTellsSpec)) bindTellsUptoCard

/-- THE SECOND FORM's CARD OF 'chittylaw21.BindAll'. -/
def bindAllUptoCard : Claim7 := { stood := { row := bindAllUptoRow, standIns := [], harness := (true, "7f15793bb291540d3b39af336cf08417733441ac032ab776ff8d4df693e3feaa"), looks := false }, kinds := [], alts := [], laidByText := true, laidKinds := [.data, .data], laidTests := true, laidLooks := .later }
def BindAllUptoCardSaid : Prop := Claim7.holds Tryd.pinned (.plain (OpenSpec.upto bindAllSpec)) bindAllUptoCard

/-- THE SECOND FORM's CARD OF 'chittylaw21.BindOne'. -/
def bindOneUptoCard : Claim7 := { stood := { row := bindOneUptoRow, standIns := [], harness := (true, "7f15793bb291540d3b39af336cf08417733441ac032ab776ff8d4df693e3feaa"), looks := false }, kinds := [], alts := [], laidByText := true, laidKinds := [.data, .data], laidTests := true, laidLooks := .later }
def BindOneUptoCardSaid : Prop := Claim7.holds Tryd.pinned (.plain (OpenSpec.upto bindOneSpec)) bindOneUptoCard
end Rows
end Go.Proofs.YtnkkgclmmaakgaaDoor
