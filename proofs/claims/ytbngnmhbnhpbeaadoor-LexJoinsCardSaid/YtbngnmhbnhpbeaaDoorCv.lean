/- A STRING OF BYTES turned into a slice of bytes. No Go function is spoken of here. -/
import Derived.Test.YtbngnmhbnhpbeaaDoorS
import Derived.Laws.IdiomStrings
namespace Go.Proofs.YtbngnmhbnhpbeaaDoor
open Go Go.RowKit

theorem size_bstr (l : List UInt8) : (bstr l).size = l.length := by unfold bstr; simp [ByteArray.size]
theorem bytesRow_list (l : List UInt8) (cap : Nat) : bytesRow (bstr l) cap = (byts l ++ List.replicate (cap - l.length) (Value.int .u8 0)).toArray := by
  unfold bytesRow byts
  rw [size_bstr]
  apply Array.ext'
  simp [bstr]
theorem conv_string (w : World) (l : List UInt8) : ∃ c w', (convert 9 48 (.string (bstr l))).run Tryd.prog w = .ok (.slice (some ⟨w.heap.size, 0, none⟩) l.length c) w' ∧ Sl w' (some ⟨w.heap.size, 0, none⟩) c (byts l) ∧ Below w.heap.size w w' := by
  have h := run_bytes_of_string (P := Tryd.prog) w 9 48 5 (bstr l) Tryd.underlying9 Tryd.underlying48 Tryd.underlying5
  rw [size_bstr] at h
  refine ⟨_, _, h, ⟨?_, by rw [length_byts]; exact grownCap_ge w l.length 0 5, fun h => by cases h⟩, ((Below.refl _ w).drew).alloc (Nat.le_refl _) _⟩
  refine .inr ⟨w.heap.size, 0, rfl, by rw [World.size_alloc]; show w.heap.size < w.heap.size + 1; omega, fun i hi => ?_⟩
  rw [Nat.zero_add, cell_of_row _ w.heap.size i _ _ _ (Go.heap_alloc_new w.drew _), bytesRow_list]
  rw [List.getElem?_toArray, List.getElem?_append_left hi]
/-- The same as one step of a region that draws its order. -/
theorem step_conv_string {w : World} {ops : Array Oper} {o : Oper} {a : Act} {K : Act → World → Prop} {Q : Exit → Act → World → Prop} {E : Prop} (dst : Option Tmp) (hdst : o.dst = dst) (hgd : Region.wanted o (yielded ops a.tmps) = true) (x : Operand)
    (ho : o.op = .convert 9 48 x) (l : List UInt8) (hx : a.eval x = .string (bstr l))
    (h : ∀ A c w', Sl w' A c (byts l) → Below w.heap.size w w' → K (a.put dst (.slice A l.length c)) w') : if Region.wanted o (yielded ops a.tmps) = true then Oper.wp Tryd.prog o a w K Q else E := by
  subst hdst
  rw [if_pos hgd]
  obtain ⟨c, w', hrun, hs, hb⟩ := conv_string w l
  unfold Oper.wp execOp
  simp only [ho, hx, hrun, Sem.run_bind, Sem.run_pure, Result.andThen_ok]
  exact h _ _ _ hs hb
/-- The same outside of a region that draws. -/
theorem wpList_conv_string {w : World} {ops : Array Oper} {rest : List Oper} {o : Oper} {a : Act} {Q : Exit → Act → World → Prop} (hgd : o.guard = none) (x : Operand)
    (ho : o.op = .convert 9 48 x) (l : List UInt8) (hx : a.eval x = .string (bstr l))
    (h : ∀ A c w', Sl w' A c (byts l) → Below w.heap.size w w' → wpList Tryd.prog ops Q rest (a.put o.dst (.slice A l.length c)) w') : wpList Tryd.prog ops Q (o :: rest) a w := by
  refine wpList_plain hgd fun _ hK => ?_
  obtain ⟨c, w', hrun, hs, hb⟩ := conv_string w l
  unfold Oper.wp execOp
  simp only [ho, hx, hrun, Sem.run_bind, Sem.run_pure, Result.andThen_ok]
  exact hK _ _ (h _ _ _ hs hb)
end Go.Proofs.YtbngnmhbnhpbeaaDoor
