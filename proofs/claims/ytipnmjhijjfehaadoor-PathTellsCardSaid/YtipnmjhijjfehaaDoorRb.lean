/- Boxed variables and rows of the call's own beside a range over a function. No Go function is spoken of here. -/
import Derived.Test.YtipnmjhijjfehaaDoorRl
import Derived.Test.YtipnmjhijjfehaaDoorMw
import Derived.Maps.AppendAt
import Derived.RangeFuncBox
namespace Go.Proofs.YtipnmjhijjfehaaDoor
set_option maxRecDepth 100000
open Go Go.RowKit

theorem box_calm {X Y : World} {B t own lo r : Nat} {v : Value} (h : Boxed X B t v) (hg : X.grownBy Y (some r)) (hr : r = own ∨ (lo ≤ r ∧ ∃ o : Obj, X.heap[r]? = some o ∧ o.isCells = false)) (hne : B ≠ own) : Boxed Y B t v := by
  refine h.kept hg fun e => ?_
  cases e
  rcases hr with rfl | ⟨-, o, ho, hc⟩
  · exact hne rfl
  · rw [show X.heap[B]? = _ from h] at ho; cases ho; cases hc
theorem own_calm {X Y : World} {base t own lo r n : Nat} {v : Value} {xs : List Value} (h : X.ownsRow base t 1 v n xs) (hg : X.grownBy Y (some r)) (hr : r = own ∨ (lo ≤ r ∧ ∃ o : Obj, X.heap[r]? = some o ∧ o.isCells = false)) (hne : own < base) : Y.ownsRow base t 1 v n xs := by
  refine h.kept hg ?_
  obtain ⟨-, h | ⟨g, cap, cur, rfl, hb, hgb, -⟩⟩ := h
  · exact .inl (by rw [h.1]; rfl)
  · refine .inr fun e => ?_
    have e : g = r := by simpa [Value.ownBlock] using e
    subst e
    rcases hr with rfl | ⟨-, o, ho, hc⟩
    · omega
    · rw [hgb] at ho; cases ho; cases hc
/-- 'out = append(out, ..)' of a boxed slice whose row lies at or above lo, the box below it. -/
theorem push_box {W w3 : World} {n₀ lo B : Nat} {t e : TypeId} {v v' : Value} {k m : Nat} {xs ys : List Value} {tmp : Obj} (hte : t ≠ e)
    (hv : Boxed W B t v) (hrow : W.ownsRow lo e 1 v k xs) (hlo : lo ≤ W.heap.size) (hB : n₀ ≤ B ∧ B < lo) (hown' : w3.ownsRow lo e 1 v' m ys) (hgrow : (W.alloc tmp).grownBy w3 v.ownBlock) :
    Boxed w3 B t v ∧ Boxed (w3.setCell ⟨B, 0, none⟩ v') B t v' ∧ KeepsOthers W (w3.setCell ⟨B, 0, none⟩ v') ∧ Below n₀ W (w3.setCell ⟨B, 0, none⟩ v') ∧ (w3.setCell ⟨B, 0, none⟩ v').ownsRow lo e 1 v' m ys ∧
      ∀ j, j < lo → j ≠ B → (w3.setCell ⟨B, 0, none⟩ v').heap[j]? = W.heap[j]? := by
  obtain ⟨h1, h2, -, h4, h5⟩ := hv.appended hte (own_base hrow (by omega : n₀ ≤ lo)) (by omega) hB.1 (own_base hown' (by omega : n₀ ≤ lo)) hgrow
  refine ⟨h1, h2, h4, h5, hown'.kept (grownBy_setCell' w3 B v') (.inr (h1.not_row hte hown').symm), fun j hj hne => ?_⟩
  refine (Below.heap_setCell w3 ⟨B, 0, none⟩ v' j hne).trans ((hgrow.block j (by rw [World.size_alloc]; omega) fun e' => ?_).trans (Below.heap_alloc W tmp j (by omega)))
  obtain ⟨-, h | ⟨g, cap, cur, rfl, hg, -⟩⟩ := hrow
  · rw [h.1] at e'; cases e'
  · have : j = g := by simpa [Value.ownBlock] using e'
    omega
end Go.Proofs.YtipnmjhijjfehaaDoor
