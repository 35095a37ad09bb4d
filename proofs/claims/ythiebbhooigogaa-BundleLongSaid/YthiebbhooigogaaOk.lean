/- WORDS ON MEMORY, for slices of things of k cells. No Go function is spoken of here. -/
import Derived.Test.YthiebbhooigogaaWd
namespace Go.Proofs.Ythiebbhooigogaa
open Go Go.RowKit

theorem own_setk {w : World} {base t k g n cap : Nat} {xs : List Value} (h : w.ownsRow base t k (.slice (some ⟨g, 0, none⟩) n cap) n xs) (i : Nat) (v : Value) :
    (w.setCell ⟨g, i, none⟩ v).ownsRow base t k (.slice (some ⟨g, 0, none⟩) n cap) n (xs.set i v) := by
  refine ⟨by rw [List.length_set]; exact h.1, ?_⟩
  rcases h.2 with ⟨h1, _⟩ | ⟨g', cap', cur, hv, hbg, hg, hnc, hcm, hcs, htake⟩
  · cases h1
  injection hv with e1 e2 e3
  injection e1 with e1
  injection e1 with e1
  subst e1 e3
  refine .inr ⟨g, cap, cur.setIfInBounds i v, rfl, hbg, heap_setCell_same w g i cur t v hg, hnc, hcm, by rw [Array.size_setIfInBounds]; exact hcs, ?_⟩
  rw [Array.toList_setIfInBounds, List.take_set, htake]
theorem ownk_grown {w w' : World} {base t k n g : Nat} {v : Value} {xs : List Value} (h : w.ownsRow base t k v n xs) (hg : w.grownBy w' (some g)) (hlt : g < base) : w'.ownsRow base t k v n xs := by
  refine ⟨h.1, ?_⟩
  rcases h.2 with hn | ⟨g', cap, cur, rfl, hbg, hcur, rest⟩
  · exact .inl hn
  · exact .inr ⟨g', cap, cur, rfl, hbg, (hg.block g' (Array.getElem?_eq_some_iff.1 hcur).1 (fun e => by have := Option.some.inj e; omega)).trans hcur, rest⟩
/-- A cell of what a slice of the call's own holds: where it lies, what it is, that it may be written. -/
theorem ownk_cell {w : World} {base t k n c : Nat} {A : Option Addr} {xs : List Value} (h : w.ownsRow base t k (.slice A n c) n xs) (i : Nat) (hi : i < xs.length) :
    ∃ g, A = some ⟨g, 0, none⟩ ∧ base ≤ g ∧ g < w.heap.size ∧ w.cell? ⟨g, i, none⟩ = xs[i]? ∧ w.frozen? ⟨g, i, none⟩ = false := by
  rcases h.2 with ⟨h1, h2⟩ | ⟨g, cap, cur, hv, hbg, hg, _, _, _, htake⟩
  · subst h2
    have h3 := h.1
    rw [Nat.zero_mul] at h3
    omega
  · injection hv with e1 e2 e3
    refine ⟨g, e1, hbg, (Array.getElem?_eq_some_iff.1 hg).1, ?_, frozen_of_row w g i cur t hg⟩
    rw [cell_of_row w g i cur t (0, 0) hg]
    have h2 := h.1
    rw [← htake, List.getElem?_take, if_pos (by omega)]
    simp
/-- Where what is the call's own lies. -/
theorem ownk_fresh {w : World} {base t k n c : Nat} {A : Option Addr} {xs : List Value} (h : w.ownsRow base t k (.slice A n c) n xs) : ∀ a, A = some a → base ≤ a.block := by
  intro a ha
  subst ha
  rcases h.2 with ⟨h1, _⟩ | ⟨g, cap, cur, hv, hbg, _⟩
  · cases h1
  · injection hv with e1
    injection e1 with e1
    subst e1
    exact hbg
/-- What turned blocks made since, beside one block, turned none of the others. -/
theorem grown_own {a b c : World} {g : Nat} {row : Option Nat} (h : a.grownBy b (some g)) (k : b.grownBy c row) (hr : ∀ t, row = some t → a.heap.size ≤ t) : a.grownBy c (some g) :=
  ⟨k.os.trans h.os, k.tape.trans h.tape, k.output.trans h.output, Nat.le_trans h.size k.size, fun i hi hne => (k.block i (Nat.lt_of_lt_of_le hi h.size) (fun e => by have := hr i e.symm; omega)).trans (h.block i hi hne)⟩
end Go.Proofs.Ythiebbhooigogaa
