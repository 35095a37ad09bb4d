/-
  DERIVED. GIVEN WITH THE SEED: THE CARDS: each row of YtjieebmcbpdeiaaGreatDoorRows.lean that lists a variable, with what it lists TIED to the program's text (the seventh form; the later family's looks); each row that meets fmt, with fmt's text TOLD by the authors' own Lean function (tested against real Go, not proved from fmt's source: count such statements apart). THE CARD IS WHAT COUNTS. Prove the row's statement (the work); the ties are given (YtjieebmcbpdeiaaGreatDoorTie.lean); close each card by the builder's one call (the guide's Derived/Test/ToyasCard.lean, 'card_holds'). Laid BY PROGRAM, IN A SANDBOX (cutbox-door.mjs). By AI agents, Wed Nov 11 2026. No macro, syntax, notation, axiom, sorry.
-/
import Derived.Test.YtjieebmcbpdeiaaGreatDoorRows
import GoSem.ClaimSeven
namespace Go.Proofs.YtjieebmcbpdeiaaGreatDoor
namespace Rows

/-- THE TIED CARD OF 'chittylaw18.GrantHolds'. -/
def grantHoldsCard : Claim7 := { stood := { row := grantHoldsRow, standIns := [], harness := (true, "f1693ce00c7180be090e09758601bb80206b62603beb90be5bb4baa0abd9e85e"), looks := true }, kinds := [], alts := [], laidByText := true, laidKinds := [.data, .data, .data, .data, .sentinel, .sentinel, .pinned], laidTests := true, laidLooks := .later }
def GrantHoldsCardSaid : Prop := Claim7.holds Tryz.pinned (.plain (OpenSpec.ofChange grantHoldsSpec)) grantHoldsCard

/-- THE TIED CARD OF 'chittylaw18.GrantOf'. -/
def grantOfCard : Claim7 := { stood := { row := grantOfRow, standIns := [], harness := (true, "f1693ce00c7180be090e09758601bb80206b62603beb90be5bb4baa0abd9e85e"), looks := true }, kinds := [], alts := [], laidByText := true, laidKinds := [.data, .data, .data, .data, .sentinel, .sentinel, .pinned], laidTests := true, laidLooks := .later }
def GrantOfCardSaid : Prop := Claim7.holds Tryz.pinned (.plain (OpenSpec.ofChange grantOfSpec)) grantOfCard

/-- THE TIED CARD OF 'chittylaw18.GrantLess'. -/
def grantLessCard : Claim7 := { stood := { row := grantLessRow, standIns := [], harness := (true, "f1693ce00c7180be090e09758601bb80206b62603beb90be5bb4baa0abd9e85e"), looks := true }, kinds := [], alts := [], laidByText := true, laidKinds := [.data, .data, .data, .data, .sentinel, .sentinel, .pinned], laidTests := true, laidLooks := .later }
def GrantLessCardSaid : Prop := Claim7.holds Tryz.pinned (.plain (OpenSpec.ofChange grantLessSpec)) grantLessCard

/-- THE SECOND FORM's CARD OF 'chittylaw18.GrantHolds'. -/
def grantHoldsUptoCard : Claim7 := { stood := { row := grantHoldsUptoRow, standIns := [], harness := (true, "f1693ce00c7180be090e09758601bb80206b62603beb90be5bb4baa0abd9e85e"), looks := true }, kinds := [], alts := [], laidByText := true, laidKinds := [.data, .data, .data, .data, .sentinel, .sentinel, .pinned], laidTests := true, laidLooks := .later }
def GrantHoldsUptoCardSaid : Prop := Claim7.holds Tryz.pinned (.plain (OpenSpec.upto grantHoldsSpec)) grantHoldsUptoCard

/-- THE SECOND FORM's CARD OF 'chittylaw18.GrantOf'. -/
def grantOfUptoCard : Claim7 := { stood := { row := grantOfUptoRow, standIns := [], harness := (true, "f1693ce00c7180be090e09758601bb80206b62603beb90be5bb4baa0abd9e85e"), looks := true }, kinds := [], alts := [], laidByText := true, laidKinds := [.data, .data, .data, .data, .sentinel, .sentinel, .pinned], laidTests := true, laidLooks := .later }
def GrantOfUptoCardSaid : Prop := Claim7.holds Tryz.pinned (.plain (OpenSpec.upto grantOfSpec)) grantOfUptoCard

/-- THE SECOND FORM's CARD OF 'chittylaw18.GrantLess'. -/
def grantLessUptoCard : Claim7 := { stood := { row := grantLessUptoRow, standIns := [], harness := (true, "f1693ce00c7180be090e09758601bb80206b62603beb90be5bb4baa0abd9e85e"), looks := true }, kinds := [], alts := [], laidByText := true, laidKinds := [.data, .data, .data, .data, .sentinel, .sentinel, .pinned], laidTests := true, laidLooks := .later }
def GrantLessUptoCardSaid : Prop := Claim7.holds Tryz.pinned (.plain (OpenSpec.upto grantLessSpec)) grantLessUptoCard
end Rows
end Go.Proofs.YtjieebmcbpdeiaaGreatDoor
