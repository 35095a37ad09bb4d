/-
  DERIVED. GIVEN WITH THE SEED: THE CARDS: each row of YtefbopgbikmohaaDoorRows.lean that lists a variable, with what it lists TIED to the program's text (the seventh form; the later family's looks); each row that meets fmt, with fmt's text TOLD by the authors' own Lean function (tested against real Go, not proved from fmt's source: count such statements apart). THE CARD IS WHAT COUNTS. Prove the row's statement (the work); the ties are given (YtefbopgbikmohaaDoorTie.lean); close each card by the builder's one call (the guide's Derived/Test/ToyasCard.lean, 'card_holds'). Laid BY PROGRAM, IN A SANDBOX (cutbox-door.mjs). By AI agents, Wed Nov 11 2026. No macro, syntax, notation, axiom, sorry.
-/
import Derived.Test.YtefbopgbikmohaaDoorRows
import GoSem.ClaimSeven
namespace Go.Proofs.YtefbopgbikmohaaDoor
namespace Rows

/-- THE TIED CARD OF 'chittylaw06.DeriveKeys'. -/
def deriveKeysCard : Claim7 := { stood := { row := deriveKeysRow, standIns := [], harness := (true, "e68ce8600c116c6f7224b562b980e982e6d0b38b68534ce5f98c4947c0509dc4"), looks := false }, kinds := [], alts := [], laidByText := true, laidKinds := [.data, .data], laidTests := true, laidLooks := .later }
def DeriveKeysCardSaid : Prop := Claim7.holds Tryd.pinned (.plain (OpenSpec.ofChange deriveKeysSpec)) deriveKeysCard

/-- THE TIED CARD OF 'chittylaw06.DeriveApart'. -/
def deriveApartCard : Claim7 := { stood := { row := deriveApartRow, standIns := [], harness := (true, "e68ce8600c116c6f7224b562b980e982e6d0b38b68534ce5f98c4947c0509dc4"), looks := false }, kinds := [], alts := [], laidByText := true, laidKinds := [.data, .data], laidTests := true, laidLooks := .later }
def DeriveApartCardSaid : Prop := Claim7.holds Tryd.pinned (.plain (OpenSpec.ofChange deriveApartSpec)) deriveApartCard

/-- THE SECOND FORM's CARD OF 'chittylaw06.DeriveKeys'. -/
def deriveKeysUptoCard : Claim7 := { stood := { row := deriveKeysUptoRow, standIns := [], harness := (true, "e68ce8600c116c6f7224b562b980e982e6d0b38b68534ce5f98c4947c0509dc4"), looks := false }, kinds := [], alts := [], laidByText := true, laidKinds := [.data, .data], laidTests := true, laidLooks := .later }
def DeriveKeysUptoCardSaid : Prop := Claim7.holds Tryd.pinned (.plain (OpenSpec.upto deriveKeysSpec)) deriveKeysUptoCard

/-- THE SECOND FORM's CARD OF 'chittylaw06.DeriveApart'. -/
def deriveApartUptoCard : Claim7 := { stood := { row := deriveApartUptoRow, standIns := [], harness := (true, "e68ce8600c116c6f7224b562b980e982e6d0b38b68534ce5f98c4947c0509dc4"), looks := false }, kinds := [], alts := [], laidByText := true, laidKinds := [.data, .data], laidTests := true, laidLooks := .later }
def DeriveApartUptoCardSaid : Prop := Claim7.holds Tryd.pinned (.plain (OpenSpec.upto deriveApartSpec)) deriveApartUptoCard
end Rows
end Go.Proofs.YtefbopgbikmohaaDoor
