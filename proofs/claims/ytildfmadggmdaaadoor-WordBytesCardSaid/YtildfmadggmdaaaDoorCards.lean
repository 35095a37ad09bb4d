/-
  DERIVED. GIVEN WITH THE SEED: THE CARDS: each row of YtildfmadggmdaaaDoorRows.lean that lists a variable, with what it lists TIED to the program's text (the seventh form; the later family's looks); each row that meets fmt, with fmt's text TOLD by the authors' own Lean function (tested against real Go, not proved from fmt's source: count such statements apart). THE CARD IS WHAT COUNTS. Prove the row's statement (the work); the ties are given (YtildfmadggmdaaaDoorTie.lean); close each card by the builder's one call (the guide's Derived/Test/ToyasCard.lean, 'card_holds'). Laid BY PROGRAM, IN A SANDBOX (cutbox-door.mjs). By AI agents, Wed Nov 11 2026. No macro, syntax, notation, axiom, sorry.
-/
import Derived.Test.YtildfmadggmdaaaDoorRows
import GoSem.ClaimSeven
namespace Go.Proofs.YtildfmadggmdaaaDoor
namespace Rows

/-- THE TIED CARD OF 'chittylaw01.WordRoots'. -/
def wordRootsCard : Claim7 := { stood := { row := wordRootsRow, standIns := [], harness := (true, "d961427e4e0a135c1a6f743599e3e3c022269ddc47ffe19acc4f7952d04b824c"), looks := false }, kinds := [], alts := [], laidByText := true, laidKinds := [.data, .data], laidTests := true, laidLooks := .later }
def WordRootsCardSaid : Prop := Claim7.holds Tryd.pinned (.plain (OpenSpec.ofChange wordRootsSpec)) wordRootsCard

/-- THE TIED CARD OF 'chittylaw01.WordBits'. -/
def wordBitsCard : Claim7 := { stood := { row := wordBitsRow, standIns := [], harness := (true, "d961427e4e0a135c1a6f743599e3e3c022269ddc47ffe19acc4f7952d04b824c"), looks := false }, kinds := [], alts := [], laidByText := true, laidKinds := [.data, .data], laidTests := true, laidLooks := .later }
def WordBitsCardSaid : Prop := Claim7.holds Tryd.pinned (.plain (OpenSpec.ofChange wordBitsSpec)) wordBitsCard

/-- THE TIED CARD OF 'chittylaw01.WordBytes'. -/
def wordBytesCard : Claim7 := { stood := { row := wordBytesRow, standIns := [], harness := (true, "d961427e4e0a135c1a6f743599e3e3c022269ddc47ffe19acc4f7952d04b824c"), looks := false }, kinds := [], alts := [], laidByText := true, laidKinds := [.data, .data], laidTests := true, laidLooks := .later }
def WordBytesCardSaid : Prop := Claim7.holds Tryd.pinned (.plain (OpenSpec.ofChange wordBytesSpec)) wordBytesCard

/-- THE SECOND FORM's CARD OF 'chittylaw01.WordRoots'. -/
def wordRootsUptoCard : Claim7 := { stood := { row := wordRootsUptoRow, standIns := [], harness := (true, "d961427e4e0a135c1a6f743599e3e3c022269ddc47ffe19acc4f7952d04b824c"), looks := false }, kinds := [], alts := [], laidByText := true, laidKinds := [.data, .data], laidTests := true, laidLooks := .later }
def WordRootsUptoCardSaid : Prop := Claim7.holds Tryd.pinned (.plain (OpenSpec.upto wordRootsSpec)) wordRootsUptoCard

/-- THE SECOND FORM's CARD OF 'chittylaw01.WordBits'. -/
def wordBitsUptoCard : Claim7 := { stood := { row := wordBitsUptoRow, standIns := [], harness := (true, "d961427e4e0a135c1a6f743599e3e3c022269ddc47ffe19acc4f7952d04b824c"), looks := false }, kinds := [], alts := [], laidByText := true, laidKinds := [.data, .data], laidTests := true, laidLooks := .later }
def WordBitsUptoCardSaid : Prop := Claim7.holds Tryd.pinned (.plain (OpenSpec.upto wordBitsSpec)) wordBitsUptoCard

/-- THE SECOND FORM's CARD OF 'chittylaw01.WordBytes'. -/
def wordBytesUptoCard : Claim7 := { stood := { row := wordBytesUptoRow, standIns := [], harness := (true, "d961427e4e0a135c1a6f743599e3e3c022269ddc47ffe19acc4f7952d04b824c"), looks := false }, kinds := [], alts := [], laidByText := true, laidKinds := [.data, .data], laidTests := true, laidLooks := .later }
def WordBytesUptoCardSaid : Prop := Claim7.holds Tryd.pinned (.plain (OpenSpec.upto wordBytesSpec)) wordBytesUptoCard
end Rows
end Go.Proofs.YtildfmadggmdaaaDoor
