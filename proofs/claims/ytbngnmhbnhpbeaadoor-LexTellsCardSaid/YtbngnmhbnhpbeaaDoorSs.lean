/- SLICES OF STRINGS on memory. No Go function is spoken of here. -/
import Derived.Test.YtbngnmhbnhpbeaaDoorMw
import Derived.Test.YtbngnmhbnhpbeaaDoorCv
namespace Go.Proofs.YtbngnmhbnhpbeaaDoor
open Go Go.RowKit

def strsV (ss : List (List UInt8)) : List Value := ss.map fun l => .string (bstr l)
theorem length_strsV (ss : List (List UInt8)) : (strsV ss).length = ss.length := by unfold strsV; simp
theorem get_strsV (ss : List (List UInt8)) (i : Nat) (h : i < ss.length) : (strsV ss)[i]? = some (.string (bstr (ss.getD i []))) := by unfold strsV; simp [h]
theorem strsV_append (ss qs : List (List UInt8)) : strsV (ss ++ qs) = strsV ss ++ strsV qs := by unfold strsV; simp
theorem strsV_one (ss : List (List UInt8)) : ∀ v ∈ strsV ss, v.oneCell' = true := by
  intro v hv
  obtain ⟨_, _, rfl⟩ := List.mem_map.1 hv
  rfl
theorem strsV_drop (ss : List (List UInt8)) (k : Nat) : strsV (ss.drop k) = (strsV ss).drop k := by unfold strsV; rw [List.map_drop]
theorem strsV_take (ss : List (List UInt8)) (k : Nat) : strsV (ss.take k) = (strsV ss).take k := by unfold strsV; rw [List.map_take]
theorem index_strs (A : Option Addr) (b o n c k : Nat) (hA : A = some ⟨b, o, none⟩) (hk : k < n) (w : World) :
    (Instr.indexAt 23 (.slice A n c) (.int .i64 k)).run Tryd.prog w = .ok (.pointer (some ⟨b, o + k, none⟩)) w := by
  subst hA
  have h : (k : Int) < (n : Int) := by omega
  go_simp
theorem infoStr : (Tryd.prog.info? 9).map (fun i => (i.zero, i.size, i.bytes)) = some (some (.string ByteArray.empty), 1, 16) := by kernel_rfl
/-- How many bytes, and items, they are. -/
def sumS (ss : List (List UInt8)) : Nat := (ss.map fun l => l.length + 1).sum
theorem sumS_succ (ss : List (List UInt8)) (k : Nat) (h : k < ss.length) : sumS (ss.take (k + 1)) = sumS (ss.take k) + ((ss.getD k []).length + 1) := by
  unfold sumS
  rw [List.take_add_one, List.map_append, List.sum_append]
  simp [h]
theorem sumS_le (ss : List (List UInt8)) (k : Nat) : sumS (ss.take k) ≤ sumS ss := by
  have h : sumS ss = sumS (ss.take k) + sumS (ss.drop k) := by
    have e : ss = ss.take k ++ ss.drop k := (List.take_append_drop k ss).symm
    conv => lhs; rw [e]
    unfold sumS
    rw [List.map_append, List.sum_append]
  omega
theorem sumS_len (ss : List (List UInt8)) : ss.length ≤ sumS ss := by
  unfold sumS
  induction ss with
  | nil => simp
  | cons l ss ih => simp only [List.map_cons, List.sum_cons, List.length_cons]; omega
theorem sumS_mem (ss : List (List UInt8)) (l : List UInt8) (h : l ∈ ss) : l.length + 1 ≤ sumS ss := by
  unfold sumS
  induction ss with
  | nil => cases h
  | cons q ss ih =>
    simp only [List.map_cons, List.sum_cons]
    rcases List.mem_cons.1 h with rfl | h
    · omega
    · have := ih h; omega
/-- One string of a slice of strings. -/
theorem strs_cell {w : World} {b o c : Nat} {ss : List (List UInt8)} (h : Sl w (some ⟨b, o, none⟩) c (strsV ss)) (k : Nat) (hk : k < ss.length) : w.cell? ⟨b, o + k, none⟩ = some (.string (bstr (ss.getD k []))) := by
  obtain ⟨b', o', hA, _, hc⟩ := h.rd.get (i := k) (by rw [length_strsV]; exact hk)
  cases hA
  rw [hc, get_strsV _ _ hk]
theorem sl_made {w w' : World} {t : TypeId} (xs : List Value) (h : w' = w.alloc (.cells xs.toArray t)) (n : Nat) (hn : xs.length = n) : Sl w' (some ⟨w.heap.size, 0, none⟩) n xs := by
  subst h hn
  exact ⟨Rd.row (ys := []) (by rw [List.append_nil]; exact Row.new w t xs), Nat.le_refl _, fun h => by cases h⟩
end Go.Proofs.YtbngnmhbnhpbeaaDoor
