/- A RANGE OVER A FUNCTION whose values are known ahead, one by one, and which keeps its place in one block of its own (a variable that it has captured). No Go function is spoken of here. -/
import Derived.Test.YtipnmjhijjfehaaDoorM
import Derived.RangeFuncNested
import Derived.RangeFuncBound
import Derived.RangeFuncCalls
import Derived.RangeFuncLeaves
import Derived.Shelf.Abstract
import Derived.Shelf.RegionOpen
import Derived.WalkKit
import Derived.OwnWalkIn
import Derived.TacticsInMore
import Derived.LoopNIn
import Derived.LoopIn
namespace Go.Proofs.YtipnmjhijjfehaaDoor
open Go Go.RowKit

variable {F : Fence} {n : Nat} {P : Program}

/-- What is said of the world when k values have come minds no step of the iterator's own: block `own` turned, blocks made. -/
def Minds (own : Nat) (J : Nat → World → Prop) : Prop := ∀ k A B, J k A → A.grownBy B (some own) → J k B
/-- The iterator g, with what it has captured, gives these values in this order, as long as it is asked to go on. Kp: what a round must keep for it. -/
def SeqL (F : Fence) (n : Nat) (P : Program) (g : Nat) (lb : Array Value) (encs : List (Array Value)) (own : Nat) (Kp : World → World → Prop) (w : World) : Prop :=
  ∀ (l : Nat) (J Jx : Nat → World → Prop) (W : World), Below w.heap.size w W → Minds own J → Minds own Jx →
    (∀ k v W1, encs[k]? = some v → J k W1 → YieldAt F (n - 1) P l v W1 fun e W' =>
      (e = .returned (.bool true) ∧ J (k + 1) W' ∧ Kp W1 W') ∨ (e = .returned (.bool false) ∧ Jx (k + 1) W')) →
    J 0 W →
    CallsIn F n P g (#[.func (.yield l) #[] #[]] ++ lb) W fun e W' => (∃ v, e = .returned v) ∧ (J encs.length W' ∨ ∃ k, k < encs.length ∧ Jx (k + 1) W')
/-- How a round's body may be left. -/
def roundEnd (Kp : World → World → Prop) (I : Nat → World → Prop) (Ix : Code → Nat → World → Prop) (k : Nat) (W : World) : Exit → Act → World → Prop
  | .normal, _, W' => KeepsOthers W W' ∧ Kp W W' ∧ I k W'
  | .ret, _, W' => KeepsOthers W W' ∧ Ix .ret k W'
  | .exit id, _, W' => KeepsOthers W W' ∧ Ix (.exit id) k W'
  | .goto t, _, W' => KeepsOthers W W' ∧ Ix (.goto t) k W'
  | .panic _, _, _ => False
  | .outgrown, _, _ => False
/-- What the caller says minds neither the iterator's steps nor the loop's own book-keeping (blocks from B on that are no cells). -/
def Calm (own B : Nat) (I : Nat → World → Prop) : Prop :=
  ∀ k X Y r, I k X → X.grownBy Y (some r) → (r = own ∨ (B ≤ r ∧ ∃ o : Obj, X.heap[r]? = some o ∧ o.isCells = false)) → I k Y
theorem Calm.own {own B : Nat} {I : Nat → World → Prop} (h : Calm own B I) : Minds own I := fun k A C hk hg => h k A C own hk hg (.inl rfl)
theorem Calm.put {own B : Nat} {I : Nat → World → Prop} (h : Calm own B I) {k l : Nat} {W : World} {o : Obj} (o' : Obj) (hs : I k W) (hB : B ≤ l) (hl : W.heap[l]? = some o) (ho : o.isCells = false) : I k (W.putObj l o') :=
  h k W _ l hs (grownBy_putObj' W l o') (.inr ⟨hB, o, hl, ho⟩)
theorem Calm.alloc {own B : Nat} {I : Nat → World → Prop} (h : Calm own B I) {k : Nat} {W : World} (o : Obj) (hs : I k W) : I k (W.alloc o) :=
  h k W _ own hs (World.grownBy_alloc W o _) (.inl rfl)

theorem wpIn_rangeList {g : Operand} {ps : Array Tmp} {assign body : Code} {Q : Exit → Act → World → Prop} {a : Act} {w : World}
    (hro : F.round = none) (h1 : 1 ≤ n) {gf : Nat} {lb : Array Value} (hg : a.eval g = .func (.func gf) #[] lb) (hFg : F.fn gf) (eg : ∀ args w, (callFunc gf args).run P w = .ok (.enter gf args) w)
    {encs : List (Array Value)} {own : Nat} {Kp : World → World → Prop} {w0 : World} (hseq : SeqL F (n - 1) P gf lb encs own Kp w0) (hlt : own < w.heap.size)
    (hKt : ∀ {A B C : World}, Kp A B → Kp B C → Kp A C) (hKb : ∀ (W : World) (l : Nat) (o' : Obj), w.heap.size ≤ l → Kp W (W.putObj l o')) (hb0 : Below w0.heap.size w0 w) (hps : ∀ v ∈ encs, v.size = ps.size)
    (I : Nat → World → Prop) (Ix : Code → Nat → World → Prop) (hI : Calm own w.heap.size I) (hIx : ∀ c, Calm own w.heap.size (Ix c)) (h0 : I 0 w) (a₁ : Nat → Act)
    (hassign : ∀ (l k : Nat) (v : Array Value) (W : World) (K : Act → World → Prop), encs[k]? = some v → K (a₁ k) W →
      assign.wpIn (F.inRound l) (n - 1 - 1) P (Exit.then K (fun _ _ _ => False)) { tmps := (ps.zip v).foldl (fun t (p, v) => t.setIfInBounds p v) a.tmps, defers := [] } W)
    (hbody : ∀ (l k : Nat) (W : World), k < encs.length → I k W → body.wpIn (F.inRound l) (n - 1 - 1) P (roundEnd Kp I Ix (k + 1) W) (a₁ k) W)
    (hdone : ∀ (D : Nat) (W : World), w.heap.size ≤ D → I encs.length W → W.heap[D]? = some (.deferred (some [])) → Q .normal { a with defers := { target := .collected D, args := #[] } :: a.defers } W)
    (hstop : ∀ (D k : Nat) (c : Code) (W : World), w.heap.size ≤ D → k < encs.length → Ix c (k + 1) W → W.heap[D]? = some (.deferred (some [])) → c.wpIn F n P Q { a with defers := { target := .collected D, args := #[] } :: a.defers } W) :
    (Code.rangeFunc g ps assign body).wpIn F n P Q a w := by
  refine wpIn_rangeFunc fun fn hfn => ?_
  rw [hro]
  -- the loop's record, by its state and its pending jump
  let R : LoopState → Option Code → Loop := fun st pe => { state := st, pending := pe, fn, tmps := a.tmps, params := ps, assign, body, defers := w.heap.size }
  obtain ⟨W1, hW1⟩ : ∃ W1, W1 = (w.alloc (.deferred (some []))).alloc (.loop (R .ready none)) := ⟨_, rfl⟩
  have hz : (w.alloc (.deferred (some []))).heap.size = w.heap.size + 1 := World.size_alloc _ _
  have hB1 : Below w.heap.size w W1 := by rw [hW1]; exact ((Below.refl _ w).alloc (Nat.le_refl _) _).alloc (by rw [hz]; omega) _
  have hrec : W1.heap[w.heap.size + 1]? = some (.loop (R .ready none)) := by rw [hW1, ← hz]; exact World.alloc_heap_new _ _
  have hdef : W1.heap[w.heap.size]? = some (.deferred (some [])) := by
    rw [hW1]; exact (Below.heap_alloc _ _ _ (by rw [hz]; omega)).trans (World.alloc_heap_new w _)
  have hI1 : I 0 W1 := by rw [hW1]; exact hI.alloc _ (hI.alloc _ h0)
  -- the two blocks, and what the caller says
  let J : LoopState → Option Code → World → Prop := fun st pe W => W.heap[w.heap.size + 1]? = some (.loop (R st pe)) ∧ W.heap[w.heap.size]? = some (.deferred (some []))
  have hJ : ∀ {st pe X Y}, J st pe X → X.grownBy Y (some own) → J st pe Y := fun h hgr =>
    ⟨(hgr.block _ (Array.getElem?_eq_some_iff.1 h.1).1 (by intro e; cases e; omega)).trans h.1, (hgr.block _ (Array.getElem?_eq_some_iff.1 h.2).1 (by intro e; cases e; omega)).trans h.2⟩
  have hJput : ∀ {st pe st' pe' X}, J st pe X → J st' pe' (X.putObj (w.heap.size + 1) (.loop (R st' pe'))) := fun h =>
    ⟨World.putObj_heap_same (Array.getElem?_eq_some_iff.1 h.1).1, (World.putObj_heap_other (by omega)).trans h.2⟩
  refine ⟨w.heap.size + 1, [{ target := .collected w.heap.size, args := #[] }], W1, { target := .fn (.func gf) lb, args := #[.func (.yield (w.heap.size + 1)) #[] #[]] }, W1, gf,
    #[.func (.yield (w.heap.size + 1)) #[] #[]] ++ lb, W1, by rw [hW1]; exact run_enterLoop_outer _ _ _ _ _, by simp only [resolve, hg]; simp [go_sem], by intro f' hf'; simp [Target.leads] at hf'; subst hf'; exact hFg, by simp [invoke, go_sem, eg], fun _ => h1, ?_⟩
  refine (hseq (w.heap.size + 1) (fun k W => I k W ∧ J .ready none W) (fun k W => ∃ c, Ix c k W ∧ J .done (some c) W) W1 (hb0.trans (hB1.mono hb0.size))
    (fun k A C h hgr => ⟨hI.own k A C h.1 hgr, hJ h.2 hgr⟩) (fun k A C ⟨c, h, h'⟩ hgr => ⟨c, (hIx c).own k A C h hgr, hJ h' hgr⟩) ?_ ⟨hI1, hrec, hdef⟩).mono ?_
  · -- one round
    rintro k v W hv ⟨hi, hj⟩
    have hklt : k < encs.length := (List.getElem?_eq_some_iff.1 hv).1
    have hy := run_yield (P := P) (args := v) hj.1 (hps v (List.mem_of_getElem? hv))
    refine ⟨fn, _, assign, body, hy, roundIn_of_wpIn hfn (hassign _ k v W _ hv ⟨_, run_beginRound hj.1 rfl, ?_⟩)⟩
    obtain ⟨W2, hW2⟩ : ∃ W2, W2 = W.putObj (w.heap.size + 1) (.loop (R .busy none)) := ⟨_, rfl⟩
    have hj2 : J .busy none W2 := by rw [hW2]; exact hJput hj
    have hk2 : Kp W W2 := by rw [hW2]; exact hKb _ _ _ (by omega)
    have hi2 : I k W2 := by rw [hW2]; exact hI.put _ hi (by omega) hj.1 rfl
    show body.wpIn _ _ P _ _ (W.putObj (w.heap.size + 1) (.loop (R .busy none)))
    rw [← hW2]
    refine wpIn_mono (hbody _ k W2 hklt hi2) ?_
    -- the round's end
    have fin : ∀ (jump : Option Code) (W3 : World), KeepsOthers W2 W3 → ∃ st pe, (Instr.endRound (w.heap.size + 1) jump).run P W3 = .ok (.bool jump.isNone) (W3.putObj (w.heap.size + 1) (.loop (R st pe))) ∧
        st = (if jump.isNone then LoopState.ready else .done) ∧ pe = jump ∧ J .busy none W3 := fun jump W3 hk3 =>
      ⟨_, _, run_endRound (P := P) jump (hk3.same _ _ hj2.1 rfl), rfl, rfl, hk3.same _ _ hj2.1 rfl, hk3.same _ _ hj2.2 rfl⟩
    have out : ∀ (c : Code) (W3 : World), KeepsOthers W2 W3 ∧ Ix c (k + 1) W3 → ∃ v w', (Instr.endRound (w.heap.size + 1) (some c)).run P W3 = .ok v w' ∧
        ((Ending.returned v = .returned (.bool true) ∧ (I (k + 1) w' ∧ J .ready none w') ∧ Kp W w') ∨ (Ending.returned v = .returned (.bool false) ∧ ∃ c, Ix c (k + 1) w' ∧ J .done (some c) w')) := fun c W3 h => by
      obtain ⟨st, pe, hr, rfl, rfl, hj3⟩ := fin (some c) W3 h.1
      exact ⟨_, _, hr, .inr ⟨rfl, c, (hIx c).put _ h.2 (by omega) hj3.1 rfl, hJput hj3⟩⟩
    rintro e a3 W3 hp
    cases e with
    | normal =>
      obtain ⟨hk3, hkp3, hi3⟩ := hp
      obtain ⟨st, pe, hr, rfl, rfl, hj3⟩ := fin none W3 hk3
      exact ⟨_, _, hr, .inl ⟨rfl, ⟨hI.put _ hi3 (by omega) hj3.1 rfl, hJput hj3⟩, hKt (hKt hk2 hkp3) (hKb _ _ _ (by omega))⟩⟩
    | ret => exact out .ret W3 hp
    | exit id => exact out (.exit id) W3 hp
    | goto t => exact out (.goto t) W3 hp
    | panic ch => exact hp.elim
    | outgrown => exact hp.elim
  · -- behind the iterator
    rintro e W2 ⟨⟨v, rfl⟩, (⟨hi, hj⟩ | ⟨k, hk, c, hi, hj⟩)⟩
    · exact ⟨none, _, run_endLoop (P := P) hj.1 (by simp [R]), hdone _ _ (Nat.le_refl _) (hI.put _ hi (by omega) hj.1 rfl) ((World.putObj_heap_other (by omega)).trans hj.2)⟩
    · exact ⟨some c, _, run_endLoop (P := P) hj.1 (by simp [R]), hstop _ k c _ (Nat.le_refl _) hk ((hIx c).put _ hi (by omega) hj.1 rfl) ((World.putObj_heap_other (by omega)).trans hj.2)⟩
end Go.Proofs.YtipnmjhijjfehaaDoor
