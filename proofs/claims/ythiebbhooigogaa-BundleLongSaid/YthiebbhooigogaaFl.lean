/- LAYER 9: fields: lists alone. -/
import Derived.Test.YthiebbhooigogaaVl
import Derived.Test.YthiebbhooigogaaWd
namespace Go.Proofs.Ythiebbhooigogaa
open Go Go.RowKit

/-- A kind, and bytes. -/
abbrev Fd := UInt8 × List UInt8
def fdV (f : Fd) : List Value := [.int .u8 (f.1.toNat : Int), .string (bstr f.2)]
theorem length_fdV (f : Fd) : (fdV f).length = 2 := rfl
theorem fdV_one (fs : List Fd) : ∀ v ∈ fs.flatMap fdV, v.oneCell' = true := by
  intro v hv
  obtain ⟨f, _, hf⟩ := List.mem_flatMap.1 hv
  simp only [fdV, List.mem_cons, List.not_mem_nil, or_false] at hf
  rcases hf with rfl | rfl <;> rfl
theorem length_fdsV (fs : List Fd) : (fs.flatMap fdV).length = fs.length * 2 := flat_length fdV 2 fs (fun _ _ => rfl)
def fieldL (f : Fd) : List UInt8 := f.1 :: (varL f.2.length ++ f.2)
def joinL (fs : List Fd) : List UInt8 := fs.flatMap fieldL
theorem length_fieldL (f : Fd) : (fieldL f).length = 1 + (varL f.2.length).length + f.2.length := by unfold fieldL; rw [List.length_cons, List.length_append]; omega
theorem fieldL_pos (f : Fd) : 2 ≤ (fieldL f).length := by have := length_varL f.2.length; rw [length_fieldL]; omega
theorem joinL_append (fs gs : List Fd) : joinL (fs ++ gs) = joinL fs ++ joinL gs := by unfold joinL; rw [List.flatMap_append]
theorem joinL_len (fs : List Fd) : fs.length * 2 ≤ (joinL fs).length := by
  induction fs with
  | nil => simp
  | cons f fs ih =>
    have := fieldL_pos f
    have e : joinL (f :: fs) = fieldL f ++ joinL fs := by unfold joinL; rw [List.flatMap_cons]
    rw [e, List.length_append, List.length_cons]; omega
theorem joinL_succ (fs : List Fd) (k : Nat) (f : Fd) (h : fs[k]? = some f) : joinL (fs.take (k + 1)) = joinL (fs.take k) ++ fieldL f := by
  unfold joinL
  rw [List.take_add_one, List.flatMap_append, h]
  simp
/-- The field with which bytes begin, and how many these are; none: 0. -/
def getF (l : List UInt8) : Fd × Nat :=
  if l.length < 2 then ((0, []), 0)
  else if (getL (l.drop 1)).2 = 0 ∨ l.length - 1 - (getL (l.drop 1)).2 < (getL (l.drop 1)).1 then ((0, []), 0)
  else ((l.getD 0 0, (l.drop (1 + (getL (l.drop 1)).2)).take (getL (l.drop 1)).1), 1 + (getL (l.drop 1)).2 + (getL (l.drop 1)).1)
theorem getF_fieldL (f : Fd) (l : List UInt8) (hf : f.2.length < 18446744073709551616) : getF (fieldL f ++ l) = (f, (fieldL f).length) := by
  have hp := fieldL_pos f
  have hg : getL ((fieldL f ++ l).drop 1) = (f.2.length, (varL f.2.length).length) := by
    show getL (varL f.2.length ++ f.2 ++ l) = _
    rw [List.append_assoc, getL_varL _ _ hf]
  have hv := length_varL f.2.length
  have hl : (fieldL f ++ l).length = 1 + (varL f.2.length).length + f.2.length + l.length := by rw [List.length_append, length_fieldL]
  unfold getF
  rw [if_neg (by rw [List.length_append]; omega), hg, if_neg (by rw [hl]; dsimp only; omega), length_fieldL]
  dsimp only
  have h1 : (fieldL f ++ l).getD 0 0 = f.1 := rfl
  have h2 : (fieldL f ++ l).drop (1 + (varL f.2.length).length) = f.2 ++ l := by
    rw [← List.drop_drop]
    show ((varL f.2.length ++ f.2) ++ l).drop _ = _
    rw [List.append_assoc, List.drop_left]
  rw [h1, h2, List.take_left]
theorem getF_back (l : List UInt8) : getF l = ((0, []), 0) ∨ (2 ≤ (getF l).2 ∧ (getF l).2 ≤ l.length ∧ (getF l).1.2.length ≤ l.length ∧ fieldL (getF l).1 = l.take (getF l).2) := by
  unfold getF
  split
  · exact .inl rfl
  · rename_i h2
    split
    · exact .inl rfl
    · rename_i hn
      refine .inr ?_
      rcases getL_back (l.drop 1) with h0 | ⟨p1, p2, p3, p4, p5⟩
      · exact absurd (.inl (by rw [h0])) hn
      · obtain ⟨G, hG⟩ : ∃ G, G = getL (l.drop 1) := ⟨_, rfl⟩
        rw [← hG] at p1 p2 p3 p4 p5 hn ⊢
        obtain ⟨n, k⟩ := G
        dsimp only at p1 p2 p3 p4 p5 hn ⊢
        rw [List.length_drop] at p2
        have hlen : ((l.drop (1 + k)).take n).length = n := by rw [List.length_take, List.length_drop]; omega
        refine ⟨by omega, by omega, by rw [hlen]; omega, ?_⟩
        unfold fieldL
        dsimp only
        rw [hlen, p5]
        cases l with
        | nil => simp at h2
        | cons b l =>
          rw [show 1 + k + n = (k + n) + 1 by omega, List.take_succ_cons]
          congr 1
          rw [List.take_add]
          congr 2
          rw [Nat.add_comm 1 k, List.drop_succ_cons]
def allN : Nat → List UInt8 → Option (List Fd)
  | 0, _ => some []
  | k + 1, l => if l = [] then some [] else if (getF l).2 = 0 then none else (allN k (l.drop (getF l).2)).map ((getF l).1 :: ·)
/-- All fields; none: there are none. -/
def allF (l : List UInt8) : Option (List Fd) := allN l.length l
theorem allN_nil (k : Nat) : allN k [] = some [] := by cases k <;> simp [allN]
theorem allN_more : ∀ (k m : Nat) (l : List UInt8), l.length ≤ k → l.length ≤ m → allN k l = allN m l
  | 0, m, l, h, _ => by
    obtain rfl : l = [] := List.eq_nil_of_length_eq_zero (by omega)
    rw [allN_nil, allN_nil]
  | k + 1, 0, l, _, h => by
    obtain rfl : l = [] := List.eq_nil_of_length_eq_zero (by omega)
    rw [allN_nil, allN_nil]
  | k + 1, m + 1, l, h1, h2 => by
    rw [allN, allN]
    split
    · rfl
    · split
      · rfl
      · rename_i h3
        rw [allN_more k m (l.drop (getF l).2) (by rw [List.length_drop]; omega) (by rw [List.length_drop]; omega)]
theorem allF_nil : allF [] = some [] := rfl
theorem allF_none (l : List UInt8) (h : l ≠ []) (h0 : (getF l).2 = 0) : allF l = none := by
  unfold allF
  cases hk : l.length with
  | zero => exact absurd (List.eq_nil_of_length_eq_zero hk) h
  | succ k => rw [allN, if_neg h, if_pos h0]
theorem allF_step (l : List UInt8) (h : l ≠ []) (h0 : (getF l).2 ≠ 0) : allF l = (allF (l.drop (getF l).2)).map ((getF l).1 :: ·) := by
  unfold allF
  cases hk : l.length with
  | zero => exact absurd (List.eq_nil_of_length_eq_zero hk) h
  | succ k =>
    rw [allN, if_neg h, if_neg h0]
    rw [allN_more k (l.drop (getF l).2).length (l.drop (getF l).2) (by rw [List.length_drop]; omega) (Nat.le_refl _)]
theorem allF_joinL : ∀ (fs : List Fd), (∀ f ∈ fs, f.2.length < 18446744073709551616) → allF (joinL fs) = some fs
  | [], _ => rfl
  | f :: fs, h => by
    have hf := h f (List.mem_cons_self ..)
    have hg := getF_fieldL f (joinL fs) hf
    have hp := fieldL_pos f
    have e : joinL (f :: fs) = fieldL f ++ joinL fs := by unfold joinL; rw [List.flatMap_cons]
    rw [e, allF_step _ (by rw [ne_eq, ← List.length_eq_zero_iff, List.length_append]; omega) (by rw [hg]; dsimp only; omega), hg]
    dsimp only
    rw [List.drop_left, allF_joinL fs (fun g hg => h g (List.mem_cons_of_mem _ hg))]
    rfl
theorem allN_back : ∀ (k : Nat) (l : List UInt8) (fs : List Fd), l.length ≤ k → allN k l = some fs → joinL fs = l ∧ ∀ f ∈ fs, f.2.length ≤ l.length
  | 0, l, fs, h, h1 => by
    obtain rfl : l = [] := List.eq_nil_of_length_eq_zero (by omega)
    obtain rfl : fs = [] := by simpa [allN] using h1.symm
    exact ⟨rfl, fun f hf => by cases hf⟩
  | k + 1, l, fs, h, h1 => by
    rw [allN] at h1
    split at h1
    · rename_i h0
      subst h0
      obtain rfl : fs = [] := by simpa using h1.symm
      exact ⟨rfl, fun f hf => by cases hf⟩
    · split at h1
      · cases h1
      · rename_i h0 h2
        obtain ⟨gs, hg, rfl⟩ := Option.map_eq_some_iff.1 h1
        have ih := allN_back k _ gs (by rw [List.length_drop]; omega) hg
        rcases getF_back l with hz | ⟨_, q2, q3, q4⟩
        · exact absurd (by rw [hz]) h2
        · refine ⟨?_, fun f hf => ?_⟩
          · show fieldL (getF l).1 ++ joinL gs = l
            rw [ih.1, q4, List.take_append_drop]
          · rcases List.mem_cons.1 hf with rfl | hf
            · exact q3
            · have := ih.2 f hf
              rw [List.length_drop] at this; omega
/-- What is read is written as it was. -/
theorem allF_back (l : List UInt8) (fs : List Fd) (h : allF l = some fs) : joinL fs = l ∧ ∀ f ∈ fs, f.2.length ≤ l.length := allN_back l.length l fs (Nat.le_refl _) h
end Go.Proofs.Ythiebbhooigogaa
