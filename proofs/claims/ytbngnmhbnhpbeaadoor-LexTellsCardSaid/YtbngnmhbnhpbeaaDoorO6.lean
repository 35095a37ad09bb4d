/- AN ARGUMENT THAT IS A SLICE OF STRINGS, opened, its strings' sizes out of the row's reach. -/
import Derived.Test.YtbngnmhbnhpbeaaDoorK
import Derived.Test.YtbngnmhbnhpbeaaDoorSs
import Derived.SliceStrings
namespace Go.Proofs.YtbngnmhbnhpbeaaDoor
open Go.ChangeShapes Go.WideShapes Go.ChangeAt Go.RowKit

theorem bstr_data (s : ByteArray) : bstr s.data.toList = s := by obtain ⟨⟨l⟩⟩ := s; rfl
theorem str_le {l : List UInt8} (h : (⟨l.toArray⟩ : ByteArray).size ≤ maxLen) : l.length ≤ 9223372036854775807 := by
  unfold maxLen at h
  simpa [ByteArray.size] using h
theorem cells_str : Tryd.prog.cellsOf 9 = 1 := by kernel_rfl
theorem weights_strs {H : Type} {P : Program} {e : TypeId} (ss : List ByteArray) (s : ByteArray) (h : s ∈ ss) : s.data.toList.length ∈ DataW.weightsAll P e (strs ss : List (DataW H)) := by
  induction ss with
  | nil => cases h
  | cons q ss ih =>
    show _ ∈ DataW.weights P e (.lit (.string q.data.toList)) ++ DataW.weightsAll P e (strs ss)
    rcases List.mem_cons.1 h with rfl | h
    · exact List.mem_append_left _ (by simp [DataW.weights])
    · exact List.mem_append_right _ (ih h)
/-- An argument that is a slice of strings. -/
theorem open_strSlice {H : Type} {enc : TypeId × Value → H} {W : World} {held : Bool} {b1 : Nat} {a : Option Addr} {len cap : Nat} {d : DataW H} {p : List MemPlace} {ts : List TypeId} {ds : List (DataW H)}
    (h : DataW.Trod enc Tryd.prog W b1 (fun _ => true) held 23 (.slice a len cap) d p) (hsz : (DataW.weightsEach Tryd.prog ts ds).all (· ≤ reachBytes) = true) {j : Nat} (ht : ts[j]? = some 23) (hd : ds[j]? = some d) :
    ∃ ss : List (List UInt8), len = ss.length ∧ Sl W a cap (strsV ss) ∧ ss.length ≤ 9223372036854775807 ∧ ∀ l ∈ ss, l.length ≤ 140737488351232 := by
  obtain ⟨fuel, hf⟩ := h
  rcases open_strings Tryd.underlying23 Tryd.underlying9 cells_str hf with ⟨hcs, _⟩ | ⟨x, l, c, bs, hcs, _, hl, hm, hz, hx, hcell, _⟩
  · simp [Value.cells] at hcs
    obtain ⟨rfl, rfl, rfl⟩ := hcs
    exact ⟨[], rfl, ⟨.inl rfl, Nat.le_refl _, fun _ => rfl⟩, by simp, fun l hl => by cases hl⟩
  · simp [Value.cells] at hcs
    obtain ⟨rfl, rfl, rfl⟩ := hcs
    simp only [Prod.mk.injEq] at hx
    obtain ⟨rfl, _⟩ := hx
    have hbl : bs.length = cap := by simpa using hz
    unfold maxLen at hm
    have hlen : ((bs.take len).map fun s => s.data.toList).length = len := by simp; omega
    have hsv : strsV ((bs.take len).map fun s => s.data.toList) = (bs.take len).map Value.string := by
      unfold strsV
      rw [List.map_map]
      exact List.map_congr_left fun s _ => by show Value.string (bstr s.data.toList) = _; rw [bstr_data]
    refine ⟨(bs.take len).map fun s => s.data.toList, hlen.symm, ⟨?_, by rw [length_strsV, hlen]; exact hl, fun h => by cases h⟩, by rw [hlen]; omega, fun q hq => ?_⟩
    · by_cases h0 : len = 0
      · subst h0; exact .inl rfl
      · obtain ⟨b, off, spot⟩ := x
        have hc0 := hcell 0 (by omega)
        have hspot : spot = none := by simpa [Addr.add] using World.cell?_spot hc0
        subst hspot
        refine .inr ⟨b, off, rfl, ?_, fun i hi => ?_⟩
        · have := World.block_lt_of_cell? W _ hc0
          rw [Addr.add_lit] at this; exact this
        · rw [length_strsV, hlen] at hi
          have hci := hcell i (by omega)
          rw [Addr.add_lit] at hci
          rw [hci, hsv]
          simp [hi, show i < bs.length by omega]
    · obtain ⟨s, hs, rfl⟩ := List.mem_map.1 hq
      have hw := weights_strs (H := H) (P := Tryd.prog) (e := 9) _ _ hs
      have h1 : s.data.toList.length ≤ reachBytes := of_decide_eq_true (List.all_eq_true.1 hsz _ (DataW.weights_mem_each ht hd s.data.toList.length (by
        simp only [DataW.weights, Tryd.underlying23]
        exact List.mem_cons_of_mem _ (List.mem_append_left _ hw))))
      unfold reachBytes at h1
      exact h1
end Go.Proofs.YtbngnmhbnhpbeaaDoor
