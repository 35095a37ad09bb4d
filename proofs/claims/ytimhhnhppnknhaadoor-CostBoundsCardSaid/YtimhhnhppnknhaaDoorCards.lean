/-
  DERIVED. GIVEN WITH THE SEED: THE CARDS: each row of YtimhhnhppnknhaaDoorRows.lean that lists a variable, with what it lists TIED to the program's text (the seventh form; the later family's looks); each row that meets fmt, with fmt's text TOLD by the authors' own Lean function (tested against real Go, not proved from fmt's source: count such statements apart). THE CARD IS WHAT COUNTS. Prove the row's statement (the work); the ties are given (YtimhhnhppnknhaaDoorTie.lean); close each card by the builder's one call (the guide's Derived/Test/ToyasCard.lean, 'card_holds'). Laid BY PROGRAM, IN A SANDBOX (cutbox-door.mjs). By AI agents, Wed Nov 11 2026. No macro, syntax, notation, axiom, sorry.
-/
import Derived.Test.YtimhhnhppnknhaaDoorRows
import GoSem.ClaimSeven
namespace Go.Proofs.YtimhhnhppnknhaaDoor
namespace Rows

/-- THE TIED CARD OF 'chittylaw15.CostTells'. -/
def costTellsCard : Claim7 := { stood := { row := costTellsRow, standIns := [], harness := (true, "9d5c58f9c7baa8e355cd38d3b436b36de419b7c691df51c4880e8c61429030ce"), looks := true }, kinds := [], alts := [], laidByText := true, laidKinds := [.data, .data, .data, .sentinel, .sentinel], laidTests := true, laidLooks := .later }
def CostTellsCardSaid : Prop := Claim7.holds Tryd.pinned (.plain (OpenSpec.ofChange costTellsSpec)) costTellsCard

/-- THE TIED CARD OF 'chittylaw15.CostBounds'. -/
def costBoundsCard : Claim7 := { stood := { row := costBoundsRow, standIns := [], harness := (true, "9d5c58f9c7baa8e355cd38d3b436b36de419b7c691df51c4880e8c61429030ce"), looks := true }, kinds := [], alts := [], laidByText := true, laidKinds := [.data, .data, .data], laidTests := true, laidLooks := .later }
def CostBoundsCardSaid : Prop := Claim7.holds Tryd.pinned (.plain (OpenSpec.ofChange costBoundsSpec)) costBoundsCard

/-- THE TIED CARD OF 'chittylaw15.CostBack'. -/
def costBackCard : Claim7 := { stood := { row := costBackRow, standIns := [], harness := (true, "9d5c58f9c7baa8e355cd38d3b436b36de419b7c691df51c4880e8c61429030ce"), looks := true }, kinds := [], alts := [], laidByText := true, laidKinds := [.data, .data, .data, .sentinel, .sentinel], laidTests := true, laidLooks := .later }
def CostBackCardSaid : Prop := Claim7.holds Tryd.pinned (.plain (OpenSpec.ofChange costBackSpec)) costBackCard

/-- THE SECOND FORM's CARD OF 'chittylaw15.CostTells'. -/
def costTellsUptoCard : Claim7 := { stood := { row := costTellsUptoRow, standIns := [], harness := (true, "9d5c58f9c7baa8e355cd38d3b436b36de419b7c691df51c4880e8c61429030ce"), looks := true }, kinds := [], alts := [], laidByText := true, laidKinds := [.data, .data, .data, .sentinel, .sentinel], laidTests := true, laidLooks := .later }
def CostTellsUptoCardSaid : Prop := Claim7.holds Tryd.pinned (.plain (OpenSpec.upto costTellsSpec)) costTellsUptoCard

/-- THE SECOND FORM's CARD OF 'chittylaw15.CostBounds'. -/
def costBoundsUptoCard : Claim7 := { stood := { row := costBoundsUptoRow, standIns := [], harness := (true, "9d5c58f9c7baa8e355cd38d3b436b36de419b7c691df51c4880e8c61429030ce"), looks := true }, kinds := [], alts := [], laidByText := true, laidKinds := [.data, .data, .data], laidTests := true, laidLooks := .later }
def CostBoundsUptoCardSaid : Prop := Claim7.holds Tryd.pinned (.plain (OpenSpec.upto costBoundsSpec)) costBoundsUptoCard

/-- THE SECOND FORM's CARD OF 'chittylaw15.CostBack'. -/
def costBackUptoCard : Claim7 := { stood := { row := costBackUptoRow, standIns := [], harness := (true, "9d5c58f9c7baa8e355cd38d3b436b36de419b7c691df51c4880e8c61429030ce"), looks := true }, kinds := [], alts := [], laidByText := true, laidKinds := [.data, .data, .data, .sentinel, .sentinel], laidTests := true, laidLooks := .later }
def CostBackUptoCardSaid : Prop := Claim7.holds Tryd.pinned (.plain (OpenSpec.upto costBackSpec)) costBackUptoCard
end Rows
end Go.Proofs.YtimhhnhppnknhaaDoor
