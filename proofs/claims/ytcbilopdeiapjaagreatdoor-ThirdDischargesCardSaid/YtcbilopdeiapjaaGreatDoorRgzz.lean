import Derived.Lib.Hide
namespace Go.Proofs.YtcbilopdeiapjaaGreatDoor
open Go Go.RowKit
theorem f1D {p:Prop} (h:p):Hid p:=Lib.hid h
theorem f1F (n:Nat):n≤n:=Nat.le_refl n
end Go.Proofs.YtcbilopdeiapjaaGreatDoor
