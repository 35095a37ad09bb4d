/-
  DERIVED. GIVEN WITH THE SEED: THE CARDS: each row of YtcbilopdeiapjaaDoorRows.lean that lists a variable, with what it lists TIED to the program's text (the seventh form; the later family's looks); each row that meets fmt, with fmt's text TOLD by the authors' own Lean function (tested against real Go, not proved from fmt's source: count such statements apart). THE CARD IS WHAT COUNTS. Prove the row's statement (the work); the ties are given (YtcbilopdeiapjaaDoorTie.lean); close each card by the builder's one call (the guide's Derived/Test/ToyasCard.lean, 'card_holds'). Laid BY PROGRAM, IN A SANDBOX (cutbox-door.mjs). By AI agents, Wed Nov 11 2026. No macro, syntax, notation, axiom, sorry.
-/
import Derived.Test.YtcbilopdeiapjaaDoorRows
import GoSem.ClaimSeven
namespace Go.Proofs.YtcbilopdeiapjaaDoor
namespace Rows

/-- THE TIED CARD OF 'chittylaw20.ThirdAdds'. -/
def thirdAddsCard : Claim7 := { stood := { row := thirdAddsRow, standIns := [], harness := (true, "e8d8efa72955a1bbde1713873cc904a8dc7a5d1d839e43b22ef567057cc28a2e"), looks := false }, kinds := [], alts := [], laidByText := true, laidKinds := [.data, .data], laidTests := true, laidLooks := .later }
def ThirdAddsCardSaid : Prop := Claim7.holds Tryd.pinned (.plain (OpenSpec.ofChange thirdAddsSpec)) thirdAddsCard

/-- THE TIED CARD OF 'chittylaw20.ThirdOpens'. -/
def thirdOpensCard : Claim7 := { stood := { row := thirdOpensRow, standIns := [], harness := (true, "e8d8efa72955a1bbde1713873cc904a8dc7a5d1d839e43b22ef567057cc28a2e"), looks := false }, kinds := [], alts := [], laidByText := true, laidKinds := [.data, .data], laidTests := true, laidLooks := .later }
def ThirdOpensCardSaid : Prop := Claim7.holds Tryd.pinned (.plain (OpenSpec.ofChange thirdOpensSpec)) thirdOpensCard

/-- THE SECOND FORM's CARD OF 'chittylaw20.ThirdAdds'. -/
def thirdAddsUptoCard : Claim7 := { stood := { row := thirdAddsUptoRow, standIns := [], harness := (true, "e8d8efa72955a1bbde1713873cc904a8dc7a5d1d839e43b22ef567057cc28a2e"), looks := false }, kinds := [], alts := [], laidByText := true, laidKinds := [.data, .data], laidTests := true, laidLooks := .later }
def ThirdAddsUptoCardSaid : Prop := Claim7.holds Tryd.pinned (.plain (OpenSpec.upto thirdAddsSpec)) thirdAddsUptoCard

/-- THE SECOND FORM's CARD OF 'chittylaw20.ThirdOpens'. -/
def thirdOpensUptoCard : Claim7 := { stood := { row := thirdOpensUptoRow, standIns := [], harness := (true, "e8d8efa72955a1bbde1713873cc904a8dc7a5d1d839e43b22ef567057cc28a2e"), looks := false }, kinds := [], alts := [], laidByText := true, laidKinds := [.data, .data], laidTests := true, laidLooks := .later }
def ThirdOpensUptoCardSaid : Prop := Claim7.holds Tryd.pinned (.plain (OpenSpec.upto thirdOpensSpec)) thirdOpensUptoCard
end Rows
end Go.Proofs.YtcbilopdeiapjaaDoor
