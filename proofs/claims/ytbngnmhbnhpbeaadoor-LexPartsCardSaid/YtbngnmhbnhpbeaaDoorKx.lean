/- LAYER 16's cards (as layer 12's): what the library's listed variables hold; a world for the witness. -/
import Derived.Test.YtbngnmhbnhpbeaaDoorK
import Derived.Test.YtbngnmhbnhpbeaaDoorCards
import Derived.Test.YtbngnmhbnhpbeaaDoorTie
import Derived.Test.YtbngnmhbnhpbeaaDoorXf
import Derived.Stop.LaidErr
import Derived.Shelf.Vars
namespace Go.Proofs.YtbngnmhbnhpbeaaDoor
open Go Go.ChangeShapes Go.WideShapes Go.ChangeAt Go.RowKit
set_option maxRecDepth 100000

theorem shape_most {W : World} (h : W.ShapedOpen Tryd.prog) : ∃ m, W.cell? ⟨3, 0, none⟩ = some (.int .i64 m) :=
  Go.Proofs.cell_of_shapedOpen_int (zero := #[.int .i64 0]) (t := 3) h (of_decide_eq_true (by kernel_rfl)) (by kernel_rfl) rfl (by kernel_rfl) (by kernel_rfl) Tryd.underlying3
theorem gSyn : Tryd.prog.globalNamed "strconv.ErrSyntax" = some 0 := by kernel_rfl
theorem gRng : Tryd.prog.globalNamed "strconv.ErrRange" = some 1 := by kernel_rfl
def bruijn64 : List Int := [0, 1, 56, 2, 57, 49, 28, 3, 61, 58, 42, 50, 38, 29, 17, 4, 62, 47, 59, 36, 45, 43, 51, 22, 53, 39, 33, 30, 24, 18, 12, 5, 63, 55, 48, 27, 60, 41, 37, 16, 46, 35, 44, 21, 52, 32, 23, 11, 54, 26, 40, 15, 34, 20, 31, 10, 25, 14, 19, 9, 13, 8, 7, 6]
theorem star_es : "*" ++ "errors.errorString" = "*errors.errorString" := by decide
theorem type_string_ptr : ∀ u, Tryd.prog.typeName? 3 u = some "*errors.errorString" → u = 94 := fun u h =>
  typeName_ptr_named (nm := "errors.errorString") (by rw [star_es]; kernel_rfl) (by kernel_rfl) (by decide) u (by rw [star_es]; exact h)
/-- What the listed variables hold, as far as package lex comes to them. -/
theorem env_of {W : World} (h : laidMet Tryd.prog Rows.lexTellsRow.laid W) (hs : W.ShapedOpen Tryd.prog) : EnvN W := by
  have h1 := laidMet.tail h
  have h2 := laidMet.tail h1
  have h4 := laidMet.tail (laidMet.tail h2)
  have h5 := laidMet.tail h4
  have tPow : Lib.TabIs Tryd.prog W "internal/strconv.uint64pow10" .u64 Lib.pow10Tab := Lib.tabIs_of_head (zs := Lib.pow10Tab) gPow (t := 86) (by kernel_rfl) Tryd.underlying86 Tryd.underlying26 (by kernel_rfl) (by kernel_rfl) h2
  obtain ⟨aR, sR, hR, -⟩ := laid_sentinel h4 gRng (by kernel_rfl) Tryd.underlying42 type_string_ptr Tryd.underlying94 Tryd.underlying96 rfl rfl Tryd.underlying9 (by kernel_rfl) (by kernel_rfl)
  obtain ⟨aS, sS, hS, -⟩ := laid_sentinel h5 gSyn (by kernel_rfl) Tryd.underlying42 type_string_ptr Tryd.underlying94 Tryd.underlying96 rfl rfl Tryd.underlying9 (by kernel_rfl) (by kernel_rfl)
  refine ⟨shape_most hs, tPow, ⟨_, by simpa using World.var?_cell gSyn hS 0, .inr ⟨_, _, rfl⟩⟩, ⟨_, by simpa using World.var?_cell gRng hR 0, .inr ⟨_, _, rfl⟩⟩⟩
/-- The like of LexJoins' row. -/
theorem envX_of {W : World} (_ : laidMet Tryd.prog Rows.lexJoinsRow.laid W) (hs : W.ShapedOpen Tryd.prog) : EnvX W := shape_most hs
/-! One start that fits: the library's tables and sentinels as their initialisers lay them. -/
def setCells12 (cs : List Value) : Obj → Obj
  | .cells _ t frozen => .cells cs.toArray t frozen
  | o => o
def bruijn32 : List Int := [0, 1, 28, 2, 29, 14, 24, 3, 30, 22, 20, 15, 25, 17, 4, 8, 31, 27, 13, 23, 21, 19, 16, 7, 26, 12, 18, 6, 11, 5, 10, 9]
def accept32 : List Int := [128, 191, 160, 191, 128, 159, 144, 191, 128, 143] ++ List.replicate 22 0
def synS : ByteArray := { data := #[105, 110, 118, 97, 108, 105, 100, 32, 115, 121, 110, 116, 97, 120] }
def rngS : ByteArray := { data := #[118, 97, 108, 117, 101, 32, 111, 117, 116, 32, 111, 102, 32, 114, 97, 110, 103, 101] }
/-- So many blocks has the settled world. -/
noncomputable def low12 : Nat := (World.holding Tryd.prog default ⟨#[], #[], []⟩).heap.size
noncomputable def libWorld (os : Os) : World :=
  let w0 := World.holding Tryd.prog os ⟨#[.cells #[.string rngS] 96, .cells #[.string synS] 96], #[], []⟩
  { w0 with heap := ((((((w0.heap.modify 6 (setCells12 (bruijn32.map (Value.int .u8)))).modify 7 (setCells12 (bruijn64.map (Value.int .u8)))).modify 2 (setCells12 (Lib.pow10Tab.map (Value.int .u64)))).modify
      5 (setCells12 (accept32.map (Value.int .u8)))).modify 4 (setCells12 (Go.Pinned.utf8FirstZ.map fun n : Nat => Value.int .u8 (n : Int)))).modify
      1 (setCells12 [.iface 94 (.pointer (some ⟨low12, 0, none⟩))])).modify 0 (setCells12 [.iface 94 (.pointer (some ⟨low12 + 1, 0, none⟩))]) }
theorem lib_met (os : Os) (args : Array Value) : laidMet Tryd.prog Rows.lexTellsRow.laid ((libWorld os).forCall (fun _ _ => 0) ⟨#[], args, []⟩).memory :=
  laidMet_of_run' 8 (by kernel_rfl) (by kernel_rfl)
theorem libX_met (os : Os) (args : Array Value) : laidMet Tryd.prog Rows.lexJoinsRow.laid ((libWorld os).forCall (fun _ _ => 0) ⟨#[], args, []⟩).memory :=
  laidMet_of_run' 8 (by kernel_rfl) (by kernel_rfl)
end Go.Proofs.YtbngnmhbnhpbeaaDoor
