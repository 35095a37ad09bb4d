/- AN ARGUMENT THAT IS A SLICE OF STRINGS, opened, its strings' sizes out of the row's reach. -/
import Derived.Test.YthiebbhooigogaaK
import Derived.Test.YthiebbhooigogaaSs
import Derived.SliceStrings
namespace Go.Proofs.Ythiebbhooigogaa
open Go.ChangeShapes Go.WideShapes Go.ChangeAt Go.RowKit

theorem bstr_data (s : ByteArray) : bstr s.data.toList = s := by obtain ⟨⟨l⟩⟩ := s; rfl
theorem str_le {l : List UInt8} (h : (⟨l.toArray⟩ : ByteArray).size ≤ maxLen) : l.length ≤ 9223372036854775807 := by
  unfold maxLen at h
  simpa [ByteArray.size] using h
theorem cells_str : Try.prog.cellsOf 9 = 1 := by kernel_rfl
theorem weights_strs {H : Type} {P : Program} {e : TypeId} (ss : List ByteArray) (s : ByteArray) (h : s ∈ ss) : s.data.toList.length ∈ DataW.weightsAll P e (strs ss : List (DataW H)) := by
  induction ss with
  | nil => cases h
  | cons q ss ih =>
    show _ ∈ DataW.weights P e (.lit (.string q.data.toList)) ++ DataW.weightsAll P e (strs ss)
    rcases List.mem_cons.1 h with rfl | h
    · exact List.mem_append_left _ (by simp [DataW.weights])
    · exact List.mem_append_right _ (ih h)
end Go.Proofs.Ythiebbhooigogaa
