/-
  No cell of these rows narrows 'for every input' (looked for: loops, veiled, ifaces, maps, wideKeys, modest, calm, conditions, laid).
  DERIVED. THE GIVEN ROWS OF THIS SEAT. 3 by the template 'for every input the law returns true; each argument reads behind the call as it read before'; 0 by the template 'total and deterministic' (their statements: YthiebbhooigogaaTotals.lean).
  GIVEN WITH THE SEED: the statements are not yours to turn. If you find one false, say at which input.
  Laid BY PROGRAM, IN A SANDBOX (cutbox-rows.mjs): the forced cells as the released guide's own fill.sh prints them over the translation 7718b8f9b957071d… (all of the seat's roots in one cut). By AI agents, Wed Nov 11 2026. No macro, syntax, notation, axiom, sorry.
-/
import Derived.Test.YthiebbhooigogaaChecked
import GoSem.Claim
import GoSem.ClaimJoined
import GoSem.ClaimMapViews
import Derived.JoinedTies
import Derived.KernelRfl
namespace Go.Proofs.Ythiebbhooigogaa
/- THE CELL 'sum', in the pinned program and in every row, IS THE sha256 OF THE DUMP (.gsa) THAT YthiebbhooigogaaProg.lean LOADS. Nothing in Lean hashes anything: it is a label: what it is worth is what the hold of that sum in a sandbox is worth. -/
noncomputable def Try.pinned : Pinned := { name := "ythiebbhooigogaa", sum := "7718b8f9b957071d896ba1da04a57fc5039a7f87c8144f3ffec7a13b1611bd61", checked := Try.checked }
namespace Rows
def none {H : Type} : Left H := { results := [], args := [] }

/-- 'chittylaw11.BundleTells': WHATEVER THE INPUT: true; the input reads as it did. -/
def bundleTellsSpec : ChangeSpec := { name := "bundleTells", fn := fun _ => fun
  | [d1, d2, d3] => { results := [.lit (.bool true)], args := [d1, d2, d3] }
  | _ => none }
def bundleTellsRow : OpenClaim := { program := "ythiebbhooigogaa", sum := "7718b8f9b957071d896ba1da04a57fc5039a7f87c8144f3ffec7a13b1611bd61", func := "chitty/chittylaw11.BundleTells", spec := "bundleTells", unfollowed := true, recurses := true, apart := false }
def BundleTellsSaid : Prop := bundleTellsRow.holds Try.pinned (OpenSpec.ofChange bundleTellsSpec)

/-- ITS FALSE NEIGHBOUR: 'it returns false'. Refute it at one input. -/
def bundleTellsWrong : ChangeSpec := { name := "bundleTells", fn := fun _ => fun
  | [d1, d2, d3] => { results := [.lit (.bool false)], args := [d1, d2, d3] }
  | _ => none }
def BundleTellsWrongFalsely : Prop := bundleTellsRow.holds Try.pinned (OpenSpec.ofChange bundleTellsWrong)

/-- 'chittylaw11.BundleBack': WHATEVER THE INPUT: true; the input reads as it did. -/
def bundleBackSpec : ChangeSpec := { name := "bundleBack", fn := fun _ => fun
  | [d1, d2, d3] => { results := [.lit (.bool true)], args := [d1, d2, d3] }
  | _ => none }
def bundleBackRow : OpenClaim := { program := "ythiebbhooigogaa", sum := "7718b8f9b957071d896ba1da04a57fc5039a7f87c8144f3ffec7a13b1611bd61", func := "chitty/chittylaw11.BundleBack", spec := "bundleBack", unfollowed := true, recurses := true, apart := false }
def BundleBackSaid : Prop := bundleBackRow.holds Try.pinned (OpenSpec.ofChange bundleBackSpec)

/-- ITS FALSE NEIGHBOUR: 'it returns false'. Refute it at one input. -/
def bundleBackWrong : ChangeSpec := { name := "bundleBack", fn := fun _ => fun
  | [d1, d2, d3] => { results := [.lit (.bool false)], args := [d1, d2, d3] }
  | _ => none }
def BundleBackWrongFalsely : Prop := bundleBackRow.holds Try.pinned (OpenSpec.ofChange bundleBackWrong)

/-- 'chittylaw11.BundleLong': WHATEVER THE INPUT: true; the input reads as it did. -/
def bundleLongSpec : ChangeSpec := { name := "bundleLong", fn := fun _ => fun
  | [d1, d2] => { results := [.lit (.bool true)], args := [d1, d2] }
  | _ => none }
def bundleLongRow : OpenClaim := { program := "ythiebbhooigogaa", sum := "7718b8f9b957071d896ba1da04a57fc5039a7f87c8144f3ffec7a13b1611bd61", func := "chitty/chittylaw11.BundleLong", spec := "bundleLong", unfollowed := true, recurses := true, apart := false }
def BundleLongSaid : Prop := bundleLongRow.holds Try.pinned (OpenSpec.ofChange bundleLongSpec)

/-- ITS FALSE NEIGHBOUR: 'it returns false'. Refute it at one input. -/
def bundleLongWrong : ChangeSpec := { name := "bundleLong", fn := fun _ => fun
  | [d1, d2] => { results := [.lit (.bool false)], args := [d1, d2] }
  | _ => none }
def BundleLongWrongFalsely : Prop := bundleLongRow.holds Try.pinned (OpenSpec.ofChange bundleLongWrong)

/- THE SECOND FORM. 'bulk': how many values and letters a reading holds, each counted each time it is reached (what is shared counts as often as it is met; a slice's spare places count too). A statement '..UptoSaid' is the law's where the arguments, and the package variables that the reading takes, are together of bulk at most 1048576: NARROWER than '..Said'. Prove '..Said' where nothing that the law and all that it calls make is longer than what came in: it says more and counts as full. Else prove '..UptoSaid'. A law counts once. -/
mutual
def uptoBulk {H : Type} : DataW H → Nat
  | .lit (.string bytes) => bytes.length + 1
  | .lit _ => 1
  | .nil => 1
  | .ptr d => uptoBulk d + 1
  | .slice elems spare => uptoBulkAll elems + uptoBulkAll spare + 1
  | .agg parts => uptoBulkAll parts + 1
  | .iface _ d => uptoBulk d + 1
  | .map entries => uptoBulkEntries entries + 1
  | .held _ => 1
def uptoBulkAll {H : Type} : List (DataW H) → Nat
  | [] => 0
  | d :: r => uptoBulk d + uptoBulkAll r
def uptoBulkEntries {H : Type} : List (Lit × DataW H) → Nat
  | [] => 0
  | x :: r => uptoBulkEntry x + uptoBulkEntries r
def uptoBulkEntry {H : Type} : Lit × DataW H → Nat
  | (.string bytes, d) => bytes.length + uptoBulk d + 1
  | (_, d) => uptoBulk d + 1
 end
def uptoSmall : (H : Type) → List (DataW H) → Bool := fun _ ds => decide (uptoBulkAll ds ≤ 1048576)
def OpenSpec.upto (s : _root_.Go.ChangeSpec) : _root_.Go.OpenSpec := { _root_.Go.OpenSpec.ofChange s with cond := some uptoSmall }

/-- 'chittylaw11.BundleTells', WHERE WHAT IT READS IS OF BULK AT MOST 1048576: true; the input reads as it did. -/
def bundleTellsUptoRow : OpenClaim := { program := "ythiebbhooigogaa", sum := "7718b8f9b957071d896ba1da04a57fc5039a7f87c8144f3ffec7a13b1611bd61", func := "chitty/chittylaw11.BundleTells", spec := "bundleTells", unfollowed := true, recurses := true, apart := false, narrowed := true }
def BundleTellsUptoSaid : Prop := bundleTellsUptoRow.holds Try.pinned (OpenSpec.upto bundleTellsSpec)

/-- 'chittylaw11.BundleBack', WHERE WHAT IT READS IS OF BULK AT MOST 1048576: true; the input reads as it did. -/
def bundleBackUptoRow : OpenClaim := { program := "ythiebbhooigogaa", sum := "7718b8f9b957071d896ba1da04a57fc5039a7f87c8144f3ffec7a13b1611bd61", func := "chitty/chittylaw11.BundleBack", spec := "bundleBack", unfollowed := true, recurses := true, apart := false, narrowed := true }
def BundleBackUptoSaid : Prop := bundleBackUptoRow.holds Try.pinned (OpenSpec.upto bundleBackSpec)

/-- 'chittylaw11.BundleLong', WHERE WHAT IT READS IS OF BULK AT MOST 1048576: true; the input reads as it did. -/
def bundleLongUptoRow : OpenClaim := { program := "ythiebbhooigogaa", sum := "7718b8f9b957071d896ba1da04a57fc5039a7f87c8144f3ffec7a13b1611bd61", func := "chitty/chittylaw11.BundleLong", spec := "bundleLong", unfollowed := true, recurses := true, apart := false, narrowed := true }
def BundleLongUptoSaid : Prop := bundleLongUptoRow.holds Try.pinned (OpenSpec.upto bundleLongSpec)

end Rows
end Go.Proofs.Ythiebbhooigogaa
