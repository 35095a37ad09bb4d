/- The library's strings.Split at a sign of one byte, as lists (layers 12, 14, 16). No Go function is spoken of here. -/
import Derived.Test.YtbngnmhbnhpbeaaDoorSp
import Derived.Test.YtbngnmhbnhpbeaaDoorCv
import Derived.Lib.SplitLaws
namespace Go.Proofs.YtbngnmhbnhpbeaaDoor
set_option maxRecDepth 100000
open Go Go.RowKit

theorem index_cases (r : List UInt8) (c : UInt8) : (Lib.indexByte r c = -1 ∧ splitL c r = [r]) ∨ ∃ i : Nat, i < r.length ∧ Lib.indexByte r c = (i : Int) ∧ splitL c r = r.take i :: splitL c (r.drop (i + 1)) := by
  by_cases h : Lib.indexByte r c = -1
  · refine .inl ⟨h, splitL_end c r fun d hd => ?_⟩
    obtain ⟨k, hk⟩ := List.getElem?_of_mem hd
    intro e
    exact Lib.indexByte_none h k (by rw [hk, e])
  · have hge := Lib.indexByte_ge r c
    obtain ⟨i, hi⟩ : ∃ i : Nat, Lib.indexByte r c = (i : Int) := ⟨(Lib.indexByte r c).toNat, by omega⟩
    obtain ⟨h1, h2⟩ := Lib.indexByte_some hi
    have hlt := (List.getElem?_eq_some_iff.1 h1).1
    refine .inr ⟨i, hlt, hi, ?_⟩
    have e : r = r.take i ++ c :: r.drop (i + 1) := by
      have hc : r[i] = c := (List.getElem?_eq_some_iff.1 h1).2
      conv => lhs; rw [← List.take_append_drop i r, List.drop_eq_getElem_cons hlt, hc]
    conv => lhs; rw [e]
    refine splitL_hit c _ _ fun d hd => ?_
    obtain ⟨k, hk⟩ := List.getElem?_of_mem hd
    have hki : k < i := by have := (List.getElem?_eq_some_iff.1 hk).1; rw [List.length_take] at this; omega
    intro e
    refine h2 k hki ?_
    rw [List.getElem?_take, if_pos hki] at hk
    rw [hk, e]
theorem splitB_sign (c : UInt8) : ∀ (k : Nat) (s : List UInt8), s.count c ≤ k → Lib.splitB (bstr [c]) 0 k (bstr s) = (splitL c s).map bstr := by
  intro k
  induction k with
  | zero =>
    intro s h
    rw [Lib.splitB_zero, splitL_end c s fun d hd e => by
      have := List.count_pos_iff.2 (e ▸ hd)
      omega]
    rfl
  | succ k ih =>
    intro s h
    have e1 : Lib.indexB (bstr s) (bstr [c]) = Lib.indexByte s c := Lib.index_one s c
    rcases index_cases s c with ⟨hi, hsp⟩ | ⟨i, hir, hi, hsp⟩
    · rw [Lib.splitB_miss _ _ _ _ (by rw [e1, hi]), hsp]; rfl
    · rw [Lib.splitB_hit _ _ _ _ i (by rw [e1, hi]), hsp, List.map_cons]
      have h1 : (bstr [c]).size = 1 := rfl
      have h2 := (Lib.indexByte_some hi).1
      have hc : s.count c = (s.take i).count c + (1 + (s.drop (i + 1)).count c) := by
        have e : s = s.take i ++ c :: s.drop (i + 1) := by
          have hg : s[i] = c := (List.getElem?_eq_some_iff.1 h2).2
          conv => lhs; rw [← List.take_append_drop i s, List.drop_eq_getElem_cons hir, hg]
        conv => lhs; rw [e]
        rw [List.count_append, List.count_cons_self]; omega
      have e2 : (bstr s).extract (i + (bstr [c]).size) (bstr s).size = bstr (s.drop (i + 1)) := by
        rw [h1, size_bstr, extract_bstr12, List.take_of_length_le (by rw [List.length_drop]; omega)]
      have e3 : (bstr s).extract 0 (i + 0) = bstr (s.take i) := by
        rw [extract_bstr12, List.drop_zero]; rfl
      rw [e2, e3, ih _ (by omega)]
theorem split_sign (c : UInt8) (s : List UInt8) : Lib.splitB (bstr [c]) 0 (Lib.countB (bstr s) (bstr [c])) (bstr s) = (splitL c s).map bstr := by
  refine splitB_sign c _ s ?_
  have : Lib.countB (bstr s) (bstr [c]) = s.count c := Lib.count_one c s
  omega
theorem split_count (c : UInt8) (s : List UInt8) : Lib.countB (bstr s) (bstr [c]) + 1 = (splitL c s).length := by
  have h := Lib.splitB_all (bstr [c]) (Nat.le_refl 1) 0 _ (bstr s) rfl
  rw [split_sign, List.length_map] at h
  exact h.symm
end Go.Proofs.YtbngnmhbnhpbeaaDoor
