/- LAYER 15: what the document's Parse does, as lists; four numbers in a row. -/
import Derived.Test.YtimhhnhppnknhaaDoorFf
import Derived.Test.YtimhhnhppnknhaaDoorSp
namespace Go.Proofs.YtimhhnhppnknhaaDoor
set_option maxRecDepth 100000
open Go Go.RowKit

theorem bstr_is (l k : List UInt8) : ((bstr l).toList == k) = decide (l = k) := by
  rw [bstr_toList, Bool.eq_iff_iff, beq_iff_eq, decide_eq_true_iff]
def fourC : List Nat := [0, 9223372036854775808, 9218868437227405312, 18442240474082181120]
theorem text_zero : textC 0 = [48] := by decide +kernel
theorem text_mzero : textC 9223372036854775808 = [45, 48] := by decide +kernel
theorem text_inf : textC 9218868437227405312 = [105, 110, 102] := by decide +kernel
theorem text_minf : textC 18442240474082181120 = [45, 105, 110, 102] := by decide +kernel
theorem four_ok (j : Nat) (h : j < 4) : fourC.getD j 0 < 2 ^ 64 ∧ nanC (fourC.getD j 0) = false := by
  have : j = 0 ∨ j = 1 ∨ j = 2 ∨ j = 3 := by omega
  rcases this with rfl | rfl | rfl | rfl <;> exact ⟨by decide, by decide +kernel⟩
theorem parse_four (s : List UInt8) (j : Nat) (h : j < 4) (e : s = textC (fourC.getD j 0)) : parseC s = some (fourC.getD j 0) :=
  (parseC_iff s _).2 ⟨(four_ok j h).1, (four_ok j h).2, e.symm⟩
theorem parse_pos (s : List UInt8) (h4 : ∀ j, j < 4 → s ≠ textC (fourC.getD j 0)) (h : s.getD 0 0 ≠ 45) : parseC s = magP s := by
  have e : parseC s = bodyP s := by
    cases s with
    | nil => rfl
    | cons c r => exact parseC_other c r h
  rw [e]
  unfold bodyP
  rw [if_neg (fun e => h4 0 (by omega) (by rw [e]; exact text_zero.symm)), if_neg (fun e => h4 2 (by omega) (by rw [e]; exact text_inf.symm))]
theorem parse_neg (r : List UInt8) (h4 : ∀ j, j < 4 → (45 : UInt8) :: r ≠ textC (fourC.getD j 0)) : parseC (45 :: r) = (magP r).map (2 ^ 63 + ·) := by
  show (bodyP r).map (2 ^ 63 + ·) = _
  unfold bodyP
  rw [if_neg (fun e => h4 1 (by omega) (by rw [e]; exact text_mzero.symm)), if_neg (fun e => h4 3 (by omega) (by rw [e]; exact text_minf.symm))]
theorem parse_neg' (s r : List UInt8) (e : s = 45 :: r) (h4 : ∀ j, j < 4 → s ≠ textC (fourC.getD j 0)) : parseC s = (magP r).map (2 ^ 63 + ·) := by
  subst e; exact parse_neg r h4
theorem tail_bstr' (x : UInt8) (r : List UInt8) (n : Nat) (h : n = r.length + 1) : (bstr (x :: r)).extract 1 n = bstr r := by
  subst h
  rw [extract_bstr12, List.drop_succ_cons, List.drop_zero, Nat.add_sub_cancel, List.take_length]
theorem cutP_hit (R : List UInt8) (k : Nat) (hk : k < R.length) (h : R.getD k 0 = 112) (hno : ∀ j, j < k → R.getD j 0 ≠ 112) : cutP R = some (R.take k, R.drop (k + 1)) := by
  have e : R = R.take k ++ 112 :: R.drop (k + 1) := by
    have hg : R[k] = 112 := by rw [List.getD_eq_getElem?_getD, List.getElem?_eq_getElem hk] at h; exact h
    conv => lhs; rw [← List.take_append_drop k R, List.drop_eq_getElem_cons hk, hg]
  conv => lhs; rw [e]
  refine cutP_at _ _ fun hm => ?_
  obtain ⟨j, hj⟩ := List.getElem?_of_mem hm
  have hjk : j < k := by have := (List.getElem?_eq_some_iff.1 hj).1; rw [List.length_take] at this; omega
  refine hno j hjk ?_
  rw [List.getElem?_take, if_pos hjk] at hj
  rw [List.getD_eq_getElem?_getD, hj]; rfl
theorem cutP_miss (R : List UInt8) (hno : ∀ j, j < R.length → R.getD j 0 ≠ 112) : cutP R = none := by
  cases h : cutP R with
  | none => rfl
  | some x =>
    obtain ⟨t, u⟩ := x
    have e := cutP_some R t u h
    have hl : t.length < R.length := by rw [e, List.length_append, List.length_cons]; omega
    refine absurd ?_ (hno t.length hl)
    conv => lhs; rw [e]
    rw [List.getD_eq_getElem?_getD, List.getElem?_append_right (Nat.le_refl _), Nat.sub_self]; rfl
theorem magP_cut (R t u : List UInt8) (h : cutP R = some (t, u)) : magP R = match valueL 10 16 t, parseI u with
    | some m, some p => ofC m p
    | _, _ => none := by unfold magP; rw [h]; rfl
theorem magP_miss (R : List UInt8) (h : cutP R = none) : magP R = none := by unfold magP; rw [h]
theorem parseI_strip (r : List UInt8) (h : ¬ (r = [] ∨ r = [48])) : parseI (45 :: r) = (valueL 10 4 r).map fun n : Nat => -(n : Int) := by
  unfold parseI
  simp only [if_neg h]
theorem parseI_keep (u : List UInt8) (h : u.getD 0 0 ≠ 45 ∨ u.length ≤ 1 ∨ u = [45, 48]) : parseI u = (valueL 10 4 u).map fun n : Nat => (n : Int) := by
  cases u with
  | nil => rfl
  | cons c r =>
    by_cases hc : c = 45
    · subst hc
      have hr : r = [] ∨ r = [48] := by
        rcases h with h | h | h
        · exact absurd rfl h
        · left; exact List.length_eq_zero_iff.1 (by simpa using h)
        · right; exact (List.cons.inj h).2
      unfold parseI
      simp only [if_pos hr]
    · exact parseI_other c r hc
theorem mag_pos (a : Nat) (h : FinC a) : a < 2 ^ 64 ∧ magC a = a ∧ negC a = false := by
  obtain ⟨h1, h2⟩ := h
  refine ⟨by omega, by unfold magC; omega, by unfold negC; exact decide_eq_false (by omega)⟩
/-- Times 1, times -1. -/
theorem mul_one_bits (a : Nat) (h : FinC a) : floatBits .mul .f64 4607182418800017408 a = some a := by
  obtain ⟨h1, h2, h3⟩ := mag_pos a h
  show Ieee.double.mul 4607182418800017408 a = some a
  rw [mul_unit false _ a read_one h1 (by rw [h2]; exact h), h2, h3]; rfl
theorem mul_minus_bits (a : Nat) (h : FinC a) : floatBits .mul .f64 13830554455654793216 a = some (2 ^ 63 + a) := by
  obtain ⟨h1, h2, h3⟩ := mag_pos a h
  show Ieee.double.mul 13830554455654793216 a = some (2 ^ 63 + a)
  rw [mul_unit true _ a read_minus h1 (by rw [h2]; exact h), h2, h3]; rfl
theorem index_floats (b n c k : Nat) (hk : k < n) (w : World) :
    (Instr.indexAt 46 (.slice (some ⟨b, 0, none⟩) n c) (.int .i64 k)).run Tryd.prog w = .ok (.pointer (some ⟨b, k, none⟩)) w := by
  have h : (k : Int) < (n : Int) := by omega
  go_simp
/-- What two texts' numbers come to: an odd number times a power of two. -/
def joinC (O1 O2 : Option Nat) (g : Nat → Int) : Option Nat :=
  match O1, O2 with
  | some m, some n => ofC m (g n)
  | _, _ => none
theorem join_none1 (O2 : Option Nat) (g : Nat → Int) : joinC none O2 g = none := rfl
theorem join_none2 (O1 : Option Nat) (g : Nat → Int) : joinC O1 none g = none := by cases O1 <;> rfl
theorem join_keep (R t u : List UInt8) (hc : cutP R = some (t, u)) (h : u.getD 0 0 ≠ 45 ∨ u.length ≤ 1 ∨ u = [45, 48]) : magP R = joinC (valueL 10 16 t) (valueL 10 4 u) (fun n => (n : Int)) := by
  rw [magP_cut R t u hc, parseI_keep u h]
  cases valueL 10 16 t <;> cases valueL 10 4 u <;> rfl
theorem join_strip (R t r : List UInt8) (hc : cutP R = some (t, 45 :: r)) (h : ¬ (r = [] ∨ r = [48])) : magP R = joinC (valueL 10 16 t) (valueL 10 4 r) (fun n => -(n : Int)) := by
  rw [magP_cut R t _ hc, parseI_strip r h]
  cases valueL 10 16 t <;> cases valueL 10 4 r <;> rfl
theorem ofC_fin (m : Nat) (p : Int) (a : Nat) (h : ofC m p = some a) : FinC a := ((ofC_iff m p a).1 h).1
theorem four_cell {w : World} {g : Nat} {t : TypeId} (h : Row w g t [.float .f64 0, .float .f64 9223372036854775808, .float .f64 9218868437227405312, .float .f64 18442240474082181120]) (k : Nat) (hk : k < 4) : w.cell? ⟨g, k, none⟩ = some (.float .f64 (fourC.getD k 0)) := by
  rw [h.cell]
  have : k = 0 ∨ k = 1 ∨ k = 2 ∨ k = 3 := by omega
  rcases this with rfl | rfl | rfl | rfl <;> rfl
end Go.Proofs.YtimhhnhppnknhaaDoor
