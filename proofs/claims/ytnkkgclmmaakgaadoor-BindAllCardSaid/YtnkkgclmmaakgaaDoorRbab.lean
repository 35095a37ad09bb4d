/- Texts of this claim, one behind the other. -/
import Derived.Test.YtnkkgclmmaakgaaDoorRbaa
import Derived.Deep.MidRow
import Derived.Laws.Rows
import Derived.Laws.Tables
import Derived.Laws.CopyRow
import Derived.Laws.ResultCell
import Derived.Laws.BytesString
import Derived.Laws.Strings
import Derived.Laws.IdiomStrings
/- MEMORY, WRITTEN: what lies elsewhere stays; slices cut out of slices; rows written whole; steps of regions. No Go function is spoken of here. -/
namespace Go.Proofs.YtnkkgclmmaakgaaDoor
set_option maxRecDepth 100000
open Go Go.RowKit

theorem all_one {xs : List Value} (h : ∀ v ∈ xs, v.oneCell' = true) : xs.toArray.all (·.oneCell') = true := by
  simpa using h
theorem row_new_set {w w3 : World} {old : Array Value} {t : TypeId} {xs : List Value} (h : (w.alloc (.cells old t)).setRow w.heap.size xs.toArray = w3) : Row w3 w.heap.size t xs ∧ Below w.heap.size w w3 := by
  subst h
  exact ⟨setRow_heap _ _ _ _ _ _ (heap_alloc_new w _), below_setRow ((Below.refl _ _).alloc (Nat.le_refl _) _) (Nat.le_refl _) _⟩
theorem range_of_row {w : World} {g : Nat} {t : TypeId} {A B C : List Value} (h : Row w g t (A ++ (B ++ C))) : w.rangeAt g A.length B := by
  intro j v hj
  have hl : j < B.length := (List.getElem?_eq_some_iff.1 hj).1
  rw [h.cell, List.getElem?_append_right (by omega), show A.length + j - A.length = j by omega, List.getElem?_append_left hl, hj]
theorem grown_of_below {w w' : World} (h : Below w.heap.size w w') (row : Option Nat) : w.grownBy w' row := ⟨h.os, h.tape, h.output, h.size, fun k hk _ => h.block k hk⟩
theorem grown_trans {a b c : World} {row : Option Nat} (h : a.grownBy b row) (k : b.grownBy c row) : a.grownBy c row :=
  ⟨k.os.trans h.os, k.tape.trans h.tape, k.output.trans h.output, Nat.le_trans h.size k.size, fun i hi hr => (k.block i (Nat.lt_of_lt_of_le hi h.size) hr).trans (h.block i hi hr)⟩
theorem grown_refl (w : World) (row : Option Nat) : w.grownBy w row := ⟨rfl, rfl, rfl, Nat.le_refl _, fun _ _ _ => rfl⟩
theorem grown_setRow (w : World) (g : Nat) (cs : Array Value) : w.grownBy (w.setRow g cs) (some g) :=
  ⟨rfl, rfl, rfl, by simp [World.setRow], fun k _ hr => setRow_other w g k cs (fun e => hr (by rw [e]))⟩
theorem grown_setCell (w : World) (g i : Nat) (v : Value) : w.grownBy (w.setCell ⟨g, i, none⟩ v) (some g) :=
  ⟨rfl, rfl, rfl, by simp [World.setCell], fun k _ hr => Below.heap_setCell _ _ _ _ (fun e => hr (by rw [e]))⟩
theorem Row.setRow {w : World} {g t : Nat} {xs : List Value} (h : Row w g t xs) (ys : List Value) : Row (w.setRow g ys.toArray) g t ys :=
  setRow_heap w g _ _ t _ h
theorem Row.grown {w w' : World} {g k t : Nat} {xs : List Value} (h : Row w g t xs) (hg : w.grownBy w' (some k)) (hne : g ≠ k) : Row w' g t xs := by
  have hl := h.lt
  unfold Row at h ⊢
  rw [hg.block g hl (fun e => hne (Option.some.inj e))]; exact h
/-- A slice that lies elsewhere reads as it did. -/
theorem Sl.apart {w w' : World} {A : Option Addr} {g c : Nat} {xs : List Value} (h : Sl w A c xs) (hg : w.grownBy w' (some g)) (hne : 0 < xs.length → ∀ a, A = some a → a.block ≠ g) : Sl w' A c xs := by
  refine ⟨?_, h.room, h.bare⟩
  rcases h.rd with hn | ⟨b, o, hA, hlt, hc⟩
  · exact .inl hn
  · subst hA
    refine .inr ⟨b, o, rfl, Nat.lt_of_lt_of_le hlt hg.size, fun i hi => ?_⟩
    rw [World.cell?_of_block (w := w) (hg.block b hlt (fun e => hne (by omega) _ rfl (Option.some.inj e)))]
    exact hc i hi
theorem Sl.block_lt {w : World} {A : Option Addr} {c : Nat} {xs : List Value} (h : Sl w A c xs) (hx : 0 < xs.length) {a : Addr} (ha : A = some a) : a.block < w.heap.size := by
  obtain ⟨b, o, hA, hlt, _⟩ := h.rd.get hx
  rw [ha] at hA; cases hA; exact hlt
/-- A slice of the call's own lies in a block of its own. -/
theorem own_apart {w : World} {base t n c g : Nat} {A : Option Addr} {xs : List Value} (h : w.ownsRow base t 1 (.slice A n c) n xs) (hg : g < base) (a : Addr) (ha : A = some a) : a.block ≠ g := by
  subst ha
  rcases h.2 with ⟨h1, _⟩ | ⟨g', cap', cur, hv, hbg, _⟩
  · cases h1
  · cases hv
    show g' ≠ g
    omega
/-- The beginning of what a slice holds. -/
theorem Sl.pre {w : World} {A : Option Addr} {c : Nat} {xs ys : List Value} (h : Sl w A c (xs ++ ys)) : Sl w A c xs := by
  refine ⟨?_, by have := h.room; rw [List.length_append] at this; omega, h.bare⟩
  by_cases h0 : xs = []
  · exact .inl h0
  · have hx : 0 < xs.length := List.length_pos_iff.2 h0
    rcases h.rd with hn | ⟨b, o, hA, hlt, hc⟩
    · exact absurd (List.append_eq_nil_iff.1 hn).1 h0
    · refine .inr ⟨b, o, hA, hlt, fun i hi => ?_⟩
      rw [hc i (by rw [List.length_append]; omega), List.getElem?_append_left hi]
theorem Sl.from {w : World} {b o c k : Nat} {xs : List Value} (h : Sl w (some ⟨b, o, none⟩) c xs) (hk : k ≤ xs.length) {A2 : Addr} (hA : A2 = if c = k then ⟨b, o, none⟩ else ⟨b, o + k, none⟩) : Sl w (some A2) (c - k) (xs.drop k) := by
  subst hA
  split
  · have := h.room
    have e : xs.drop k = [] := List.drop_of_length_le (by omega)
    rw [e]
    exact ⟨.inl rfl, by simp, fun h => by cases h⟩
  · exact h.cut hk
theorem from_block {b o c k : Nat} {A2 : Addr} (hA : A2 = if c = k then ⟨b, o, none⟩ else ⟨b, o + k, none⟩) : A2.block = b := by
  subst hA; split <;> rfl
theorem Rd.block {w : World} {g : Nat} {t : TypeId} {fr : Nat × Nat} {xs : List Value} (h : w.heap[g]? = some (.cells xs.toArray t fr)) : Rd w (some ⟨g, 0, none⟩) xs :=
  .inr ⟨g, 0, rfl, (Array.getElem?_eq_some_iff.1 h).1, fun i _ => by rw [Nat.zero_add, cell_of_row w g i _ t fr h]; simp⟩
theorem index_bytes (A : Option Addr) (b o n c k : Nat) (hA : A = some ⟨b, o, none⟩) (hk : k < n) (w : World) :
    (Instr.indexAt 53 (.slice A n c) (.int .i64 k)).run Tryd.prog w = .ok (.pointer (some ⟨b, o + k, none⟩)) w := by
  subst hA
  have h : (k : Int) < (n : Int) := by omega
  go_simp
theorem byts_set (ys : List UInt8) (j : Nat) (y : UInt8) : (byts ys).set j (.int .u8 (y.toNat : Int)) = byts (ys.set j y) := by
  unfold byts; rw [List.map_set]
theorem row_range {w : World} {g : Nat} {t : TypeId} {xs : List Value} (h : Row w g t xs) : w.rangeAt g 0 xs := by
  have := range_of_row (A := []) (C := []) (by rw [List.append_nil]; exact h : Row w g t ([] ++ (xs ++ [])))
  exact this
/-- Two new rows, each written whole. -/
theorem store2 {w w4 : World} {A B : Array Value} {t u : TypeId} {X Y : List Value} (h : ((((w.alloc (.cells A t)).alloc (.cells B u)).setRow w.heap.size X.toArray).setRow (w.heap.size + 1) Y.toArray) = w4) :
    Row w4 w.heap.size t X ∧ Row w4 (w.heap.size + 1) u Y ∧ Below w.heap.size w w4 := by
  subst h
  have h1 : (((w.alloc (.cells A t)).alloc (.cells B u)).setRow w.heap.size X.toArray).heap[w.heap.size + 1]? = some (.cells B u) := Eq.trans (setRow_other _ _ _ _ (by omega)) (heap_alloc2_new w _ _)
  have h0 : Row (((w.alloc (.cells A t)).alloc (.cells B u)).setRow w.heap.size X.toArray) w.heap.size t X := setRow_heap _ _ _ _ _ _ (heap_alloc2_old w _ _)
  refine ⟨?_, setRow_heap _ _ _ _ _ _ h1, below_setRow (below_setRow (((Below.refl _ w).alloc (Nat.le_refl _) _).alloc (by rw [World.size_alloc]; omega) _) (Nat.le_refl _) _) (by omega) _⟩
  unfold Row at h0 ⊢
  rw [setRow_other _ _ _ _ (by omega)]; exact h0
theorem Sl.hpos {w : World} {A : Option Addr} {c : Nat} {xs : List Value} (h : Sl w A c xs) (h0 : 0 < xs.length) : ∃ ad, A = some ad ∧ ∀ j v, xs[j]? = some v → w.cell? (ad.add j) = some v := by
  obtain ⟨b, o, rfl, _, _⟩ := h.rd.get h0
  exact ⟨_, rfl, h.rd.at_add⟩
theorem below_two (w : World) (X Y : Obj) : Below w.heap.size w ((w.alloc X).alloc Y) := ((Below.refl _ w).alloc (Nat.le_refl _) _).alloc (by rw [World.size_alloc]; omega) _
theorem three_later {w w3 : World} {X Y Z : Obj} (hb : Below (((w.alloc X).alloc Y).alloc Z).heap.size (((w.alloc X).alloc Y).alloc Z) w3) :
    w3.heap[w.heap.size]? = some X ∧ w3.heap[w.heap.size + 1]? = some Y ∧ Below w.heap.size w w3 ∧ w.heap.size + 3 ≤ w3.heap.size := by
  have s2 : ((w.alloc X).alloc Y).heap.size = w.heap.size + 2 := by rw [World.size_alloc, World.size_alloc]
  have s3 : (((w.alloc X).alloc Y).alloc Z).heap.size = w.heap.size + 3 := by rw [World.size_alloc, s2]
  rw [s3] at hb
  refine ⟨?_, ?_, ((below_two w X Y).alloc (by rw [s2]; omega) Z).trans (hb.mono (by omega)), by have := hb.size; omega⟩
  · rw [hb.block _ (by omega), heap_alloc_old _ _ (by omega), heap_alloc2_old]
  · rw [hb.block _ (by omega), heap_alloc_old _ _ (by omega), heap_alloc2_new]
/-- Bytes, bit by bit. -/
theorem byte_xor (a b : UInt8) : bits .xor .u8 (a.toNat : Int) (b.toNat : Int) = ((a ^^^ b).toNat : Int) := by
  show IntKind.u8.wrap ((BitVec.ofInt 8 (a.toNat : Int) ^^^ BitVec.ofInt 8 (b.toNat : Int)).toNat : Int) = _
  have e : ∀ c : UInt8, BitVec.ofInt 8 (c.toNat : Int) = c.toBitVec := fun c => by show BitVec.ofInt 8 (c.toBitVec.toNat : Int) = c.toBitVec; simp
  rw [e, e, ← UInt8.toBitVec_xor, IntKind.wrap_u8]
  have := (a ^^^ b).toNat_lt
  show ((a ^^^ b).toNat : Int) % 256 = _
  omega
/-- One step of a region that lays one new block. -/
theorem step_alloc {P : Program} {w : World} {ops : Array Oper} {o : Oper} {a : Act} {K : Act → World → Prop} {Q : Exit → Act → World → Prop} {E : Prop} (dst : Option Tmp) (hdst : o.dst = dst) (hgd : Region.wanted o (yielded ops a.tmps) = true)
    (v : Value) (ob : Obj) (hrun : (execOp a.eval o).run P w = .ok (.value v) (w.alloc ob))
    (h : ∀ w', w' = w.alloc ob → Below w.heap.size w w' → K (a.put dst v) w') : if Region.wanted o (yielded ops a.tmps) = true then Oper.wp P o a w K Q else E := by
  subst hdst
  rw [if_pos hgd]
  unfold Oper.wp
  rw [hrun]
  exact h _ rfl ((Below.refl _ w).alloc (Nat.le_refl _) ob)
theorem sl_lt {w : World} {b o c : Nat} {xs : List Value} (h : Sl w (some ⟨b, o, none⟩) c xs) (hx : 0 < xs.length) : b < w.heap.size := by
  obtain ⟨b', o', he, hlt, _⟩ := h.rd.get hx
  cases he
  exact hlt
theorem own_set {w : World} {base t g n cap : Nat} {xs : List Value} (h : w.ownsRow base t 1 (.slice (some ⟨g, 0, none⟩) n cap) n xs) (i : Nat) (v : Value) :
    (w.setCell ⟨g, i, none⟩ v).ownsRow base t 1 (.slice (some ⟨g, 0, none⟩) n cap) n (xs.set i v) := by
  refine ⟨by rw [List.length_set]; exact h.1, ?_⟩
  rcases h.2 with ⟨h1, _⟩ | ⟨g', cap', cur, hv, hbg, hg, hnc, hcm, hcs, htake⟩
  · cases h1
  injection hv with e1 e2 e3
  injection e1 with e1
  injection e1 with e1
  subst e1 e3
  refine .inr ⟨g, cap, cur.setIfInBounds i v, rfl, hbg, heap_setCell_same w g i cur t v hg, hnc, hcm, by rw [Array.size_setIfInBounds]; exact hcs, ?_⟩
  rw [Array.toList_setIfInBounds, List.take_set, htake]
theorem size_tag : (Tryd.prog.info? 23).map (·.size) = some 32 := by kernel_rfl
theorem byts_zeros (n : Nat) : byts (List.replicate n 0) = List.replicate n (.int .u8 0) := by
  unfold byts
  rw [List.map_replicate]; rfl

/-- A row written whole where it stands. -/
theorem row_set {w w4 : World} {g t : Nat} {old xs : List Value} (h0 : Row w g t old) (h : w.setRow g xs.toArray = w4) : Row w4 g t xs ∧ w.grownBy w4 (some g) := by
  subst h
  exact ⟨h0.setRow _, grown_setRow _ _ _⟩
/-- Two new rows, the second one written whole. -/
theorem row_new_set2 {w w4 : World} {old1 : List Value} {old2 : Array Value} {t u : TypeId} {xs : List Value} (h : ((w.alloc (.cells old1.toArray t)).alloc (.cells old2 u)).setRow (w.heap.size + 1) xs.toArray = w4) :
    Row w4 w.heap.size t old1 ∧ Row w4 (w.heap.size + 1) u xs ∧ Below w.heap.size w w4 := by
  subst h
  have h0 : Row ((w.alloc (.cells old1.toArray t)).alloc (.cells old2 u)) w.heap.size t old1 := heap_alloc2_old w _ _
  refine ⟨?_, setRow_heap _ _ _ _ _ _ (heap_alloc2_new w _ _), below_setRow (((Below.refl _ w).alloc (Nat.le_refl _) _).alloc (by rw [World.size_alloc]; omega) _) (by omega) _⟩
  exact h0.grown (grown_setRow _ _ _) (by omega)
/-- A row of the call's own as a slice. -/
theorem own_of_row {w : World} {g t base : Nat} {xs : List Value} (h : Row w g t xs) (hb : base ≤ g) (hm : xs.length ≤ maxLen) : w.ownsRow base t 1 (.slice (some ⟨g, 0, none⟩) xs.length xs.length) xs.length xs :=
  ⟨by rw [Nat.mul_one], .inr ⟨g, xs.length, xs.toArray, rfl, hb, h, Nat.le_refl _, hm, by rw [List.size_toArray, Nat.mul_one], by rw [Nat.mul_one]; exact List.take_length⟩⟩
/-- Results: an array that lies in memory, and a slot. -/
theorem results_row_tmp {P : Program} {fn : Func} {p u : Tmp} {ty : TypeId} (h : fn.results = #[.cell p ty, .tmp u]) (tmps : Array Value) (w : World) (g : Nat) (t : TypeId) (cs : Array Value) (fr : Nat × Nat) (d : TypeDesc)
    (hp : tmps.getD p undef = .pointer (some ⟨g, 0, none⟩)) (hg : w.heap[g]? = some (.cells cs t fr))
    (hu : P.underlying ty = some d) (hd : (match d with | .struct _ | .array _ _ => true | _ => false) = true) (hi : (P.info? ty).map (·.size) = some cs.size) (v : Value) (hv : tmps.getD u undef = v) :
    (results fn tmps).run P w = .ok (.tuple #[.agg cs, v]) w := by
  rw [results_cell_tmp h, hp, hv]
  simp [asAddr, Result.andThen, run_loadVar_row w g t ty cs fr d hg hu hd hi]
theorem Sl.range {w : World} {b o c : Nat} {xs : List Value} (h : Sl w (some ⟨b, o, none⟩) c xs) : w.rangeAt b o xs := by
  intro j v hj
  have hl : j < xs.length := (List.getElem?_eq_some_iff.1 hj).1
  obtain ⟨b', o', he, _, hc⟩ := h.rd.get hl
  cases he
  rw [hc, hj]
section
variable {P : Program} {w : World} {ops : Array Oper} {o : Oper} {a : Act} {K : Act → World → Prop} {Q : Exit → Act → World → Prop} {E : Prop}
theorem put_none (l : List Value) (d : List Deferred) (v : Value) : ({ tmps := l.toArray, defers := d } : Act).put none v = { tmps := l.toArray, defers := d } := rfl
theorem step_load_mid (dst : Option Tmp) (hdst : o.dst = dst) (hgd : Region.wanted o (yielded ops a.tmps) = true) (ty : TypeId) (x : Operand) (ho : o.op = .load ty x)
    (b off : Nat) (hx : a.eval x = .pointer (some ⟨b, off, none⟩)) (cs : List Value) (d : TypeDesc) (hc : w.rangeAt b off cs)
    (hu : P.underlying ty = some d) (hd : d.isRow = true) (hi : (P.info? ty).map (·.size) = some cs.length)
    (h : K (a.put dst (.agg cs.toArray)) w) : if Region.wanted o (yielded ops a.tmps) = true then Oper.wp P o a w K Q else E := by
  subst hdst; rw [if_pos hgd]; exact wp_load_mid ty x ho b off hx cs d hc hu hd hi h
theorem run_load_op (ty : TypeId) (x : Operand) (ho : o.op = .load ty x)
    (b off : Nat) (hx : a.eval x = .pointer (some ⟨b, off, none⟩)) (cs : List Value) (d : TypeDesc) (hc : w.rangeAt b off cs)
    (hu : P.underlying ty = some d) (hd : d.isRow = true) (hi : (P.info? ty).map (·.size) = some cs.length) : (execOp a.eval o).run P w = .ok (.value (.agg cs.toArray)) w := by
  unfold execOp
  simp only [ho, hx, Instr.loadAt, Instr.sureAddr, Sem.run_bind, Sem.run_pure, Result.andThen_ok, run_loadVar_mid w b off ty cs d hc hu hd hi]
theorem run_store_row (ty : TypeId) (g off : Nat) (t : TypeId) (cur cs : List Value) (hr : Row w g t cur) (hfit : off + cs.length ≤ cur.length) (hi : (P.info? ty).map (·.size) = some cs.length) (h1 : ∀ v ∈ cs, v.oneCell' = true) :
    (Instr.storeAt ty (.pointer (some ⟨g, off, none⟩)) (.agg cs.toArray)).run P w = .ok () (w.setRow g (splice cur off cs).toArray) := by
  have hst := run_storeCells_at P g off t cs 0 cur.toArray w hr (by simpa using hfit) h1
  cases hq : P.info? ty with
  | none => simp [hq] at hi
  | some i =>
    have hs : i.size = cs.length := by simpa [hq] using hi
    simp only [Nat.add_zero] at hst
    simp [Instr.storeAt, Instr.sureAddr, storeVar, sizeOf, typeInfo, hq, Value.cells, hs, hst, splice]
theorem step_store_row (dst : Option Tmp) (hdst : o.dst = dst) (hgd : Region.wanted o (yielded ops a.tmps) = true) (ty : TypeId) (x y : Operand) (ho : o.op = .store ty x y)
    (g off : Nat) (t : TypeId) (cur cs : List Value) (hx : a.eval x = .pointer (some ⟨g, off, none⟩)) (hy : a.eval y = .agg cs.toArray) (hr : Row w g t cur) (hfit : off + cs.length ≤ cur.length) (hi : (P.info? ty).map (·.size) = some cs.length) (h1 : ∀ v ∈ cs, v.oneCell' = true)
    (h : ∀ w', Row w' g t (splice cur off cs) → w.grownBy w' (some g) → K (a.put dst undef) w') : if Region.wanted o (yielded ops a.tmps) = true then Oper.wp P o a w K Q else E := by
  subst hdst
  rw [if_pos hgd]
  unfold Oper.wp execOp
  simp only [ho, hx, hy, run_store_row ty g off t cur cs hr hfit hi h1, Sem.run_bind, Sem.run_pure, Result.andThen_ok]
  exact h _ (hr.setRow _) (grown_setRow _ _ _)
theorem step_copy_row (dst : Option Tmp) (hdst : o.dst = dst) (hgd : Region.wanted o (yielded ops a.tmps) = true) (d s : Operand) (dT sT : TypeId)
    (ho : o.op = .call { callee := .builtin .copy, args := #[d, s], argTypes := #[dT, sT] }) (elem : TypeId) (hu : P.underlying dT = some (.slice elem)) (hsz : (P.info? elem).map (·.size) = some 1)
    (g off dLen dCap : Nat) (ad : Addr) (sLen sCap : Nat) (hd : a.eval d = .slice (some ⟨g, off, none⟩) dLen dCap) (hs : a.eval s = .slice (some ad) sLen sCap)
    (t : TypeId) (cur : List Value) (hg : Row w g t cur) (cs : List Value) (n : Nat) (hl : cs.length = n) (hn : n = Nat.min sLen dLen)
    (hsrc : ∀ j v, cs[j]? = some v → w.cell? (ad.add j) = some v) (hfit : off + cs.length ≤ cur.length) (h1 : ∀ v ∈ cs, v.oneCell' = true)
    (h : ∀ w', Row w' g t (splice cur off cs) → w.grownBy w' (some g) → K (a.put dst (goInt n)) w') : if Region.wanted o (yielded ops a.tmps) = true then Oper.wp P o a w K Q else E := by
  subst hl hdst
  rw [if_pos hgd]
  have hrun := run_copy_row (P := P) w dT sT o.type elem g off dLen dCap ad sLen sCap cur.toArray t cs hu hsz hg hn hsrc (by simpa using hfit) h1
  unfold Oper.wp
  simp [execOp, ho, resolve, invoke, builtin, hd, hs, hrun, Result.andThen]
  have hR := hg.setRow (splice cur off cs)
  have hG := grown_setRow w g (splice cur off cs).toArray
  simp only [splice] at hR hG h
  exact h _ hR hG
end
section
variable {P : Program} {md : Region.Mode} {ops : Array Oper} {Q : Exit → Act → World → Prop} {S : World → Prop} {fuel : Nat} {listed : Array Bool} {a : Act} {w : World}
variable {l l' : List Value} {ds : List Deferred}
end
end Go.Proofs.YtnkkgclmmaakgaaDoor

/- STRINGS OF BYTES: a slice of bytes turned into a string. No Go function is spoken of here. -/
namespace Go.Proofs.YtnkkgclmmaakgaaDoor
set_option maxRecDepth 100000
open Go Go.RowKit

def bstr (l : List UInt8) : ByteArray := ⟨l.toArray⟩
theorem foldl_push (l : List UInt8) (s : ByteArray) : (l.map fun b => (b.toNat : Int)).foldl (fun r n => r.push (UInt8.ofNat n.toNat)) s = ⟨s.data ++ l.toArray⟩ := by
  induction l generalizing s with
  | nil => simp
  | cons b l ih =>
    rw [List.map_cons, List.foldl_cons, ih]
    simp [ByteArray.push]
/-- Bytes turned into a string. -/
theorem conv_bytes {w : World} {A : Option Addr} {c : Nat} {l : List UInt8} (h : Sl w A c (byts l)) (n : Nat) (hn : n = l.length) :
    (convert 53 9 (.slice A n c)).run Tryd.prog w = .ok (.string (bstr l)) w := by
  subst hn
  rw [run_convert_bytes_string w _ _ 5 A l.length c Tryd.underlying53 Tryd.underlying5 Tryd.underlying9]
  cases A with
  | none =>
    have hc := h.bare rfl
    have hr := h.room
    rw [length_byts] at hr
    obtain rfl : l = [] := List.eq_nil_of_length_eq_zero (by omega)
    rfl
  | some ad =>
    have e : byts l = (l.map fun b => (b.toNat : Int)).map (Value.int .u8) := by unfold byts; simp
    have hld : (loadCells ad l.length).run Tryd.prog w = .ok ((l.map fun b => (b.toNat : Int)).map (Value.int .u8)).toArray w := by
      have := run_loadCells_list (P := Tryd.prog) w ad (byts l) h.rd.at_add
      rw [length_byts, e] at this
      exact this
    rw [run_bytesToString w ad l.length c _ hld, foldl_push]
    simp [bstr]
theorem bstr_toList (l : List UInt8) : (bstr l).toList = l := by rw [ByteArray.toList_eq]; rfl
/-- Two strings held against each other, as the walk spells it. -/
theorem bstr_beq (l k : List UInt8) : ((bstr l).toList == (bstr k).toList) = decide (l = k) := by
  rw [bstr_toList, bstr_toList]
  by_cases h : l = k
  · subst h; simp
  · rw [decide_eq_false h, beq_eq_false_iff_ne]; exact h
end Go.Proofs.YtnkkgclmmaakgaaDoor

/- SLICES THAT BEGAN AS A LITERAL WITH NOTHING IN IT ('[]byte{}'): what is appended lies in a block of its own, made behind. No Go function is spoken of here. -/
namespace Go.Proofs.YtnkkgclmmaakgaaDoor
set_option maxRecDepth 100000
open Go Go.RowKit

/-- Two new rows. -/
theorem two_rows {w w1 : World} {A B : List Value} {tA tB : TypeId} (h : (w.alloc (.cells A.toArray tA)).alloc (.cells B.toArray tB) = w1) :
    Row w1 w.heap.size tA A ∧ Row w1 (w.heap.size + 1) tB B ∧ Below w.heap.size w w1 ∧ w1.heap.size = w.heap.size + 2 := by
  subst h
  have s1 : (w.alloc (.cells A.toArray tA)).heap.size = w.heap.size + 1 := World.size_alloc _ _
  exact ⟨heap_alloc2_old w _ _, heap_alloc2_new w _ _, ((Below.refl _ w).alloc (Nat.le_refl _) _).alloc (by omega) _, by rw [World.size_alloc, s1]⟩
end Go.Proofs.YtnkkgclmmaakgaaDoor

/- SLICES OF THINGS OF k CELLS EACH ('[]struct{..}'): such a slice value '.slice A n c' holds xs (n * k cells, one thing behind the other) where 'Sl w A (c * k) xs'. No Go function is spoken of here. -/
namespace Go.Proofs.YtnkkgclmmaakgaaDoor
set_option maxRecDepth 100000
open Go Go.RowKit

theorem Sl.of_ownk {w : World} {base t k n : Nat} {v : Value} {xs : List Value} (h : w.ownsRow base t k v n xs) : ∃ A c, v = .slice A n c ∧ xs.length = n * k ∧ Sl w A (c * k) xs := by
  rcases h.2 with ⟨rfl, rfl⟩ | ⟨g, cap, cur, rfl, _, hg, hle, _, hs, htake⟩
  · have hn : xs.length = 0 := by simpa using h.1
    exact ⟨none, 0, rfl, h.1, ⟨.inl (List.eq_nil_of_length_eq_zero hn), by omega, fun _ => Nat.zero_mul k⟩⟩
  · refine ⟨some ⟨g, 0, none⟩, cap, rfl, h.1, ⟨.inr ⟨g, 0, rfl, (Array.getElem?_eq_some_iff.1 hg).1, fun i hi => ?_⟩, by rw [h.1]; exact Nat.mul_le_mul_right k hle, fun h => by cases h⟩⟩
    have hi' : i < n * k := by rw [← h.1]; exact hi
    rw [Nat.zero_add, cell_of_row w g i cur t (0, 0) hg, ← htake, List.getElem?_take, if_pos hi']
    simp
theorem ownk_later {w w' : World} {base t k n B : Nat} {v : Value} {xs : List Value} (h : w.ownsRow base t k v n xs) (hb : Below B w w') (hB : w.heap.size ≤ B) : w'.ownsRow base t k v n xs := by
  refine ⟨h.1, ?_⟩
  rcases h.2 with hn | ⟨g, cap, cur, rfl, hbg, hg, rest⟩
  · exact .inl hn
  · exact .inr ⟨g, cap, cur, rfl, hbg, (hb.block g (Nat.lt_of_lt_of_le (Array.getElem?_eq_some_iff.1 hg).1 hB)).trans hg, rest⟩
theorem run_append_k {P : Program} (w : World) (base : Nat) (t ty e : TypeId) (i : TypeInfo) (z : Value) (k bytes : Nat) (ht : P.underlying t = some (.slice e)) (hi : P.info? e = some i) (hz : i.zero = some z)
    (hsize : i.size = k) (hk : 0 < k) (hby : i.bytes = bytes) (hzs : z.cells.size = k) (v : Value) (n : Nat) (xs : List Value) (hown : w.ownsRow base e k v n xs)
    (A : Option Addr) (m c : Nat) (news : List Value) (hm : news.length = m * k) (hsl : Sl w A (c * k) news) (h1 : ∀ u ∈ news, u.oneCell' = true)
    (h63 : n + m ≤ maxLen) (hbytes : (n + m) * bytes ≤ 140737488355328) (hbase : base ≤ w.heap.size) :
    ∃ v' w', (Builtin.append_ #[t, t] ty #[v, .slice A m c]).run P w = .ok v' w' ∧ w'.ownsRow base e k v' (n + m) (xs ++ news) ∧ w.grownBy w' v.ownBlock := by
  cases A with
  | none =>
    have hc := hsl.bare rfl
    have hl := hsl.room
    have hm0 : m = 0 := by
      have h0 : m * k = 0 := by omega
      rcases Nat.mul_eq_zero.1 h0 with h | h
      · exact h
      · omega
    have hc0 : c = 0 := by
      rcases Nat.mul_eq_zero.1 hc with h | h
      · exact h
      · omega
    subst hm0 hc0
    obtain rfl : news = [] := List.eq_nil_of_length_eq_zero (by omega)
    exact ⟨v, w, run_append_owned_none (P := P) (w := w) base t ty e i k ht hi v n xs hown, by simpa using hown, World.grownBy.refl w _⟩
  | some ad =>
    obtain ⟨v', w', h1', h2, h3, _⟩ := run_append_own (P := P) w base t ty e i z k bytes ht hi hz hsize hby hzs hk v n xs hown ad m c news hm hsl.rd.at_add h1 h63 hbytes hbase
    exact ⟨v', w', h1', h2, h3⟩
theorem wpList_append_k {P : Program} {w : World} {ops : Array Oper} {rest : List Oper} {o : Oper} {a : Act} {Q : Exit → Act → World → Prop} (hgd : o.guard = none) (s x : Operand) (t : TypeId)
    (ho : o.op = .call { callee := .builtin .append, args := #[s, x], argTypes := #[t, t] })
    (base : Nat) (e : TypeId) (i : TypeInfo) (z : Value) (k bytes : Nat) (ht : P.underlying t = some (.slice e)) (hi : P.info? e = some i) (hz : i.zero = some z)
    (hsize : i.size = k) (hk : 0 < k) (hby : i.bytes = bytes) (hzs : z.cells.size = k)
    (v : Value) (n : Nat) (xs : List Value) (hs : a.eval s = v) (hown : w.ownsRow base e k v n xs)
    (A : Option Addr) (m c : Nat) (news : List Value) (hx : a.eval x = .slice A m c) (hm : news.length = m * k) (hsl : Sl w A (c * k) news) (h1 : ∀ u ∈ news, u.oneCell' = true)
    (h63 : n + m ≤ maxLen) (hbytes : (n + m) * bytes ≤ 140737488355328) (hbase : base ≤ w.heap.size)
    (h : ∀ v' w', w'.ownsRow base e k v' (n + m) (xs ++ news) → w.grownBy w' v.ownBlock → wpList P ops Q rest (a.put o.dst v') w') : wpList P ops Q (o :: rest) a w := by
  refine wpList_plain hgd fun _ hK => ?_
  obtain ⟨v', w', hrun, h2, h3⟩ := run_append_k (P := P) w base t o.type e i z k bytes ht hi hz hsize hk hby hzs v n xs hown A m c news hm hsl h1 h63 hbytes hbase
  unfold Oper.wp execOp
  simp only [ho, resolve, invoke, builtin, Sem.run_bind, Sem.run_pure, Result.andThen_ok, List.map_toArray, List.map_cons, List.map_nil, hs, hx, hrun]
  exact hK _ _ (h v' w' h2 h3)
/-- Things of k cells each, one behind the other: the cells of the i-th. -/
theorem flat_at {α : Type} (f : α → List Value) (k : Nat) (fs : List α) (hf : ∀ a ∈ fs, (f a).length = k) : ∀ (i : Nat) (a : α), fs[i]? = some a → ∀ j, j < k → (fs.flatMap f)[i * k + j]? = (f a)[j]? := by
  induction fs with
  | nil => intro i a h; simp at h
  | cons b fs ih =>
    intro i a h j hj
    have hb := hf b (List.mem_cons_self ..)
    rw [List.flatMap_cons]
    cases i with
    | zero =>
      simp only [List.getElem?_cons_zero, Option.some.injEq] at h
      subst h
      rw [Nat.zero_mul, Nat.zero_add, List.getElem?_append_left (by omega)]
    | succ i =>
      rw [List.getElem?_append_right (by rw [hb, Nat.succ_mul]; omega), hb, show (i + 1) * k + j - k = i * k + j by rw [Nat.succ_mul]; omega]
      exact ih (fun a ha => hf a (List.mem_cons_of_mem _ ha)) i a (by simpa using h) j hj
theorem flat_length {α : Type} (f : α → List Value) (k : Nat) (fs : List α) (hf : ∀ a ∈ fs, (f a).length = k) : (fs.flatMap f).length = fs.length * k := by
  induction fs with
  | nil => simp
  | cons b fs ih =>
    rw [List.flatMap_cons, List.length_append, hf b (List.mem_cons_self ..), ih (fun a ha => hf a (List.mem_cons_of_mem _ ha)), List.length_cons, Nat.succ_mul]; omega
/-- The cells of the i-th thing of a slice. -/
theorem Sl.thing {α : Type} {f : α → List Value} {k : Nat} {fs : List α} {w : World} {b o c : Nat} (h : Sl w (some ⟨b, o, none⟩) c (fs.flatMap f)) (hf : ∀ a ∈ fs, (f a).length = k) (i : Nat) (a : α) (ha : fs[i]? = some a) : w.rangeAt b (o + i * k) (f a) := by
  intro j v hj
  have hlen : (f a).length = k := hf a (List.mem_of_getElem? ha)
  have hjk : j < k := by have := (List.getElem?_eq_some_iff.1 hj).1; omega
  have hi := (List.getElem?_eq_some_iff.1 ha).1
  have hlt : i * k + j < (fs.flatMap f).length := by
    rw [flat_length f k fs hf]
    have : (i + 1) * k ≤ fs.length * k := Nat.mul_le_mul_right k hi
    rw [Nat.succ_mul] at this
    omega
  obtain ⟨b', o', he, _, hc⟩ := h.rd.get hlt
  cases he
  rw [Nat.add_assoc, hc, flat_at f k fs hf i a ha j hjk, hj]
end Go.Proofs.YtnkkgclmmaakgaaDoor

/- LAYER 10: tokens: lists alone. -/
namespace Go.Proofs.YtnkkgclmmaakgaaDoor
set_option maxRecDepth 100000
open Go Go.RowKit

structure Cav where
  third : Bool
  text : List UInt8
  party : Nat
  id : List UInt8
  vault : List UInt8
structure Tok where
  key : Nat
  id : List UInt8
  cavs : List Cav
  bound : Bool
  tag : List UInt8
theorem Cav.ext_iff' (a b : Cav) : a = b ↔ a.third = b.third ∧ a.text = b.text ∧ a.party = b.party ∧ a.id = b.id ∧ a.vault = b.vault := by
  cases a; cases b; simp
instance : DecidableEq Cav := fun a b => decidable_of_iff _ (Cav.ext_iff' a b).symm
theorem Tok.ext_iff' (a b : Tok) : a = b ↔ a.key = b.key ∧ a.id = b.id ∧ a.cavs = b.cavs ∧ a.bound = b.bound ∧ a.tag = b.tag := by
  cases a; cases b; simp
instance : DecidableEq Tok := fun a b => decidable_of_iff _ (Tok.ext_iff' a b).symm
def cavV (c : Cav) : List Value := [.bool c.third, .string (bstr c.text), .int .u64 c.party, .string (bstr c.id), .string (bstr c.vault)]
theorem cavV_one (cs : List Cav) : ∀ v ∈ cs.flatMap cavV, v.oneCell' = true := by
  intro v hv
  obtain ⟨f, _, hf⟩ := List.mem_flatMap.1 hv
  simp only [cavV, List.mem_cons, List.not_mem_nil, or_false] at hf
  rcases hf with rfl | rfl | rfl | rfl | rfl <;> rfl
theorem length_cavsV (cs : List Cav) : (cs.flatMap cavV).length = cs.length * 5 := flat_length cavV 5 cs (fun _ _ => rfl)
def tokH (t : Tok) (A : Option Addr) (c : Nat) : List Value := [.int .u64 t.key, .string (bstr t.id), .slice A t.cavs.length c, .bool t.bound]
def tokV (t : Tok) (A : Option Addr) (c : Nat) : List Value := tokH t A c ++ byts t.tag
theorem tokV_one (t : Tok) (A : Option Addr) (c : Nat) : ∀ v ∈ tokV t A c, v.oneCell' = true := by
  intro v hv
  rcases List.mem_append.1 hv with h | h
  · simp only [tokH, List.mem_cons, List.not_mem_nil, or_false] at h
    rcases h with rfl | rfl | rfl | rfl <;> rfl
  · exact byts_one _ v h
structure Tok.Ok (t : Tok) : Prop where
  key : t.key < 18446744073709551616
  party : ∀ c ∈ t.cavs, c.party < 18446744073709551616
  tag : t.tag.length = 32
theorem length_tokV {t : Tok} (h : t.Ok) (A : Option Addr) (c : Nat) : (tokV t A c).length = 36 := by
  unfold tokV; rw [List.length_append, length_byts, h.tag]; rfl
def canC (c : Cav) : Bool :=
  if c.third then decide (c.text = []) && decide (c.id.length ≤ 1024) && decide (c.vault.length ≤ 1024)
  else decide (c.text.length ≤ 512) && decide (c.party = 0) && decide (c.id = []) && decide (c.vault = [])
def checkT (t : Tok) : Bool := decide (t.id.length ≤ 1024) && decide (t.cavs.length ≤ 64) && t.cavs.all canC
def zeroK : Tok := ⟨0, [], [], false, List.replicate 32 0⟩
theorem zeroK_ok : zeroK.Ok := ⟨by decide, by simp [zeroK], rfl⟩
end Go.Proofs.YtnkkgclmmaakgaaDoor

/- LAYER 1: words as bytes: package word's calls, and the document's. -/
namespace Go.Proofs.YtnkkgclmmaakgaaDoor
set_option maxRecDepth 100000
open Go.RowKit

theorem infoByte : (Tryd.prog.info? 5).map (fun i => (i.zero, i.size, i.bytes)) = some (some (.int .u8 0), 1, 1) := by kernel_rfl
/-- A word's four bytes, the highest first. -/
def bytesL (x : BitVec 32) : List UInt8 := [UInt8.ofNat (x.toNat / 16777216), UInt8.ofNat (x.toNat / 65536), UInt8.ofNat (x.toNat / 256), UInt8.ofNat x.toNat]
theorem byte_of (n : Nat) : ((UInt8.ofNat n).toNat : Int) = (n : Int) % 256 := by
  rw [UInt8.toNat_ofNat']; omega
theorem byts_word (x : BitVec 32) : byts (bytesL x) = [.int .u8 (u (x >>> 24) % 256), .int .u8 (u (x >>> 16) % 256), .int .u8 (u (x >>> 8) % 256), .int .u8 (u x % 256)] := by
  unfold byts bytesL
  simp only [List.map_cons, List.map_nil, byte_of]
  rw [← u_shr24, ← u_shr16, ← u_shr8]
  unfold u
  simp only [Int.natCast_ediv]
  rfl
theorem rbytes_any (x : BitVec 32) (w : World) :
    Calls Tryd.prog 59 #[.int .u32 (u x)] w (GaveBytes (bytesL x) w) := by
  have hb := u_bd x
  go_enter Tryd.func59, Tryd.ntmps59
  go_wp2
  go_ret
  refine ⟨_, rfl, ?_, (Below.refl _ _).alloc (Nat.le_refl _) _⟩
  rw [byts_word]
  have e1 : (u (x >>> 16)).tmod 256 % (256 : Int) = u (x >>> 16) % (256 : Int) := by rw [Int.tmod_eq_emod_of_nonneg (u_bd _).1]; omega
  have e2 : (u (x >>> 8)).tmod 256 % (256 : Int) = u (x >>> 8) % (256 : Int) := by rw [Int.tmod_eq_emod_of_nonneg (u_bd _).1]; omega
  rw [e1, e2]
  exact World.ownsRow_lit w #[_, _, _, _] 4 (Nat.le_refl _) (by unfold maxLen; omega) rfl
theorem put_any (A : Option Addr) (c : Nat) (l : List UInt8) (x : BitVec 32) (w : World) (hl : Sl w A c (byts l)) (hn : l.length ≤ 1000000) :
    Calls Tryd.prog 55 #[.slice A l.length c, .int .u32 (u x)] w (GaveBytes (l ++ bytesL x) w) := by
  obtain ⟨i0, hi, hz0, hz1, hz2⟩ := info_parts infoByte
  have hm : i0.bytes * (l.length + 4) ≤ 281474976710656 := by rw [hz2]; omega
  have hm2 : l.length + 4 ≤ maxLen := by unfold maxLen; omega
  have hm3 : 0 + l.length ≤ maxLen := by omega
  have hby := Lib.hid (byts_word x)
  have hb := u_bd x
  go_enter Tryd.func55, Tryd.ntmps55
  go_wp2_with (first
    | (at_make; refine wpList_make_own _ rfl _ _ 53 rfl w.heap.size 5 i0 _ 1 Tryd.underlying53 hi hz0 hz1 _ _ _ (l.length + 4) rfl rfl (by go_num) hm hm2 (Nat.le_refl _) ?_; intro w1 hown1 hg1; have hbel1 : Below w.heap.size w w1 := (Below.refl _ _).grown hg1 (Nat.le_refl _) (fun _ h => by cases h))
    | (at_builtin; refine wpList_append_sl rfl (.tmp 10) (.tmp 11) 53 rfl w.heap.size 5 i0 _ 1 Tryd.underlying53 hi hz0 hz1 hz2 rfl _ 0 [] rfl hown1 A l.length c (byts l) rfl (length_byts l).symm (hl.later (Nat.le_refl _) hbel1) (byts_one l) hm3 (by omega) hbel1.size ?_; intro v2 w2 hown2 hg2; have hbel2 : Below w.heap.size w w2 := hbel1.grown hg2 hbel1.size (fun k hk => (hown1.lt k hk).1))
    | (at_builtin; refine wpList_append_own _ rfl (.tmp 13) (.tmp 25) 53 rfl w.heap.size 5 i0 _ 1 1 Tryd.underlying53 hi hz0 hz1 hz2 rfl (by omega) v2 (0 + l.length) ([] ++ byts l) rfl (hown2.alloc _) ⟨w2.heap.size, 0, none⟩ 4 4 (byts (bytesL x)) rfl (length_byts _) (by rw [hby.out]; exact cells_new _ _ _) (byts_one _) (by rw [Nat.zero_add]; exact hm2) (by omega) (by rw [World.size_alloc]; have := hbel2.size; omega) ?_; intro v3 w3 hown3 hg3 _; have hbel3 : Below w.heap.size w w3 := (hbel2.alloc hbel2.size _).grown hg3 (by rw [World.size_alloc]; have := hbel2.size; omega) (fun k hk => (hown2.lt k hk).1)))
  go_ret
  refine ⟨v3, rfl, ?_, hbel3⟩
  rw [byts_append, List.length_append, show (bytesL x).length = 4 from rfl]
  simpa using hown3
theorem put_at (A : Option Addr) (n c : Nat) (l : List UInt8) (x : BitVec 32) (w : World) (hn : n = l.length) (hl : Sl w A c (byts l)) (hm : l.length ≤ 1000000) :
    Calls Tryd.prog 55 #[.slice A n c, .int .u32 (u x)] w (GaveBytes (l ++ bytesL x) w) := by
  subst hn
  exact put_any A c l x w hl hm
theorem sizeByte : (Tryd.prog.info? 5).map (·.size) = some 1 := by kernel_rfl
/-- The four bytes of a word that are laid out where there may be fewer. -/
theorem four_at (l : List UInt8) (i : Nat) (h : i < 4) : (splice [Value.int .u8 0, .int .u8 0, .int .u8 0, .int .u8 0] 0 (byts (l.take 4)))[i]? = some (.int .u8 ((l.getD i 0).toNat : Int)) := by
  unfold splice
  rw [List.take_zero, List.nil_append, Nat.zero_add, length_byts]
  by_cases hi : i < l.length
  · rw [List.getElem?_append_left (by rw [length_byts, List.length_take]; omega), get_byts _ _ (by rw [List.length_take]; omega)]
    simp [h]
  · rw [List.getElem?_append_right (by rw [length_byts, List.length_take]; omega), length_byts, List.length_take, show min 4 l.length = l.length by omega, List.getElem?_drop, show l.length + (i - l.length) = i by omega]
    rw [show l.getD i 0 = 0 by simp [show l.length ≤ i by omega]]
    match i, h with
    | 0, _ => rfl
    | 1, _ => rfl
    | 2, _ => rfl
    | 3, _ => rfl
/-- The first four bytes as a number. -/
def getV (l : List UInt8) : Int := (((l.getD 0 0).toNat * 256 + (l.getD 1 0).toNat) * 256 + (l.getD 2 0).toNat) * 256 + (l.getD 3 0).toNat
theorem getV_eq (l : List UInt8) : getV l = ((l.getD 0 0).toNat : Int) * 16777216 + ((l.getD 1 0).toNat : Int) * 65536 + ((l.getD 2 0).toNat : Int) * 256 + ((l.getD 3 0).toNat : Int) := by
  unfold getV; omega
theorem wraps32 : ∀ n : Int, 0 ≤ n → n < 2 ^ 32 → IntKind.u32.wrap n = n := by
  intro n h0 h1
  rw [IntKind.wrap_u32]
  have : (2 : Int) ^ 32 = 4294967296 := by decide
  omega
theorem or4 (b0 b1 b2 b3 : Int) (d0 : 0 ≤ b0 ∧ b0 < 256) (d1 : 0 ≤ b1 ∧ b1 < 256) (d2 : 0 ≤ b2 ∧ b2 < 256) (d3 : 0 ≤ b3 ∧ b3 < 256) :
    bits .or .u32 (bits .or .u32 (bits .or .u32 (b0 * 16777216) (b1 * 65536)) (b2 * 256)) b3 = b0 * 16777216 + b1 * 65536 + b2 * 256 + b3 := by
  have p32 : (2 : Int) ^ 32 = 4294967296 := by decide
  have p24 : (2 : Int) ^ 24 = 16777216 := by decide
  have p16 : (2 : Int) ^ 16 = 65536 := by decide
  have p8 : (2 : Int) ^ 8 = 256 := by decide
  rw [bits_join .u32 32 (by decide) wraps32 24 (b0 * 16777216) (b1 * 65536) (by omega) (by omega) (by omega) (by omega) (by omega) (by omega),
    bits_join .u32 32 (by decide) wraps32 16 (b0 * 16777216 + b1 * 65536) (b2 * 256) (by omega) (by omega) (by omega) (by omega) (by omega) (by omega),
    bits_join .u32 32 (by decide) wraps32 8 (b0 * 16777216 + b1 * 65536 + b2 * 256) b3 (by omega) (by omega) (by omega) (by omega) (by omega) (by omega)]
theorem get_any (A : Option Addr) (c : Nat) (l : List UInt8) (w : World) (hl : Sl w A c (byts l)) (hn : l.length ≤ 1000000) :
    Calls Tryd.prog 75 #[.slice A l.length c] w fun e w' => e = .returned (.int .u32 (getV l)) ∧ Below w.heap.size w w' := by
  have hlen : (byts (l.take 4)).length = l.length.min 4 := by rw [length_byts, List.length_take, Nat.min_comm]
  have hpos : 0 < (byts (l.take 4)).length → ∃ ad, A = some ad ∧ ∀ j v, (byts (l.take 4))[j]? = some v → (w.alloc (.cells #[.int .u8 0, .int .u8 0, .int .u8 0, .int .u8 0] 111)).cell? (ad.add j) = some v := by
    intro h
    have hp : 0 < (byts l).length := by rw [length_byts] at h ⊢; rw [List.length_take] at h; omega
    obtain ⟨b, o, rfl, hb, _⟩ := hl.rd.get hp
    refine ⟨_, rfl, fun j v hj => ?_⟩
    have hj' : (byts l)[j]? = some v := by
      have e : byts (l.take 4) = (byts l).take 4 := by unfold byts; rw [List.map_take]
      rw [e, List.getElem?_take] at hj
      split at hj
      · exact hj
      · cases hj
    rw [World.cell?_alloc_lt _ _ _ (by rw [Addr.add_lit]; exact hb)]
    exact hl.rd.at_add j v hj'
  have hfit : 0 + (byts (l.take 4)).length ≤ [Value.int .u8 0, .int .u8 0, .int .u8 0, .int .u8 0].length := by rw [length_byts, List.length_take]; simp only [List.length_cons, List.length_nil]; omega
  obtain ⟨cs, hcs⟩ : ∃ cs, cs = byts (l.take 4) := ⟨_, rfl⟩
  have hcs1 : ∀ v ∈ cs, v.oneCell' = true := by rw [hcs]; exact byts_one _
  have hat : ∀ i, i < 4 → (splice [Value.int .u8 0, .int .u8 0, .int .u8 0, .int .u8 0] 0 cs)[i]? = some (.int .u8 ((l.getD i 0).toNat : Int)) := by rw [hcs]; exact four_at l
  rw [← hcs] at hlen hpos hfit
  clear hcs hl
  have d0 := byte_bd (l.getD 0 0)
  have d1 := byte_bd (l.getD 1 0)
  have d2 := byte_bd (l.getD 2 0)
  have d3 := byte_bd (l.getD 3 0)
  have a0 := hat 0 (by omega)
  have a1 := hat 1 (by omega)
  have a2 := hat 2 (by omega)
  have a3 := hat 3 (by omega)
  have HV := Lib.hid (getV_eq l)
  generalize ((l.getD 0 0).toNat : Int) = b0 at *
  generalize ((l.getD 1 0).toNat : Int) = b1 at *
  generalize ((l.getD 2 0).toNat : Int) = b2 at *
  generalize ((l.getD 3 0).toNat : Int) = b3 at *
  have A0 := Lib.hid a0
  have A1 := Lib.hid a1
  have A2 := Lib.hid a2
  have A3 := Lib.hid a3
  have HPOS := Lib.hid hpos
  clear hat a0 a1 a2 a3 hpos
  go_enter Tryd.func75, Tryd.ntmps75
  go_wp2_with ((with_reducible refine wpList_copy_splice rfl (.tmp 4) (.tmp 5) 53 53 rfl 5 Tryd.underlying53 sizeByte _ _ _ _ _ _ rfl rfl w.heap.size 0 [.int .u8 0, .int .u8 0, .int .u8 0, .int .u8 0] _ (heap_alloc_new w _) cs hlen (fun h => ⟨rfl, HPOS.out h⟩) hfit hcs1 w.heap.size w ((Below.refl _ _).alloc (Nat.le_refl _) _) (Nat.le_refl _) ?_); intro w2 HG2 hB2; have c0 := (Row.cell (HG2.out : Row w2 w.heap.size 111 _) 0).trans A0.out; have c1 := (Row.cell (HG2.out : Row w2 w.heap.size 111 _) 1).trans A1.out; have c2 := (Row.cell (HG2.out : Row w2 w.heap.size 111 _) 2).trans A2.out; have c3 := (Row.cell (HG2.out : Row w2 w.heap.size 111 _) 3).trans A3.out)
  go_ret
  refine ⟨?_, hB2⟩
  rw [HV.out, ← or4 b0 b1 b2 b3 d0 d1 d2 d3]
  rfl
theorem get_at (A : Option Addr) (n c : Nat) (l : List UInt8) (w : World) (hl : Sl w A c (byts l)) (hn : n = l.length) (h : l.length ≤ 1000000) :
    Calls Tryd.prog 75 #[.slice A n c] w fun e w' => e = .returned (.int .u32 (getV l)) ∧ Below w.heap.size w w' := by
  subst hn; exact get_any A c l w hl h
/-- The document's: one byte after the other. -/
def getK (l : List UInt8) : Nat → Int
  | 0 => 0
  | k + 1 => getK l k * 256 + ((l.getD k 0).toNat : Int)
theorem getK_bd (l : List UInt8) (k : Nat) (h : k ≤ 3) : 0 ≤ getK l k ∧ getK l k < 16777216 := by
  have b0 := byte_bd (l.getD 0 0)
  have b1 := byte_bd (l.getD 1 0)
  have b2 := byte_bd (l.getD 2 0)
  match k, h with
  | 0, _ => simp only [getK]; omega
  | 1, _ => simp only [getK]; omega
  | 2, _ => simp only [getK]; omega
  | 3, _ => simp only [getK]; omega
theorem rget_any (A : Option Addr) (c : Nat) (l : List UInt8) (w : World) (hl : Sl w A c (byts l)) :
    Calls Tryd.prog 74 #[.slice A l.length c] w fun e w' => e = .returned (.int .u32 (getV l)) ∧ w = w' := by
  go_enter Tryd.func74, Tryd.ntmps74
  go_wp2
  go_loop [3, 4] (fun x i => ∃ k : Nat, k ≤ 4 ∧ i = .int .i64 k ∧ x = .int .u32 (getK l k)) (fun _ i => 4 - (intOf i).toNat)
  case atStart => exact ⟨0, by omega, rfl, rfl⟩
  case round =>
    obtain ⟨k, hk, rfl, rfl⟩ := hrel
    by_cases hlt : k < 4
    · have hb := getK_bd l k (by omega)
      have hd := byte_bd (l.getD k 0)
      have E := Lib.hid (show getK l (k + 1) = getK l k * 256 + ((l.getD k 0).toNat : Int) from rfl)
      generalize getK l k = x at *
      by_cases hlt2 : k < l.length
      · obtain ⟨b, o, rfl, _, hc⟩ := hl.rd.get (i := k) (by rw [length_byts]; exact hlt2)
        rw [get_byts l k hlt2] at hc
        generalize ((l.getD k 0).toNat : Int) = y at *
        go_wp2
        go_round
        case rel => exact ⟨k + 1, by omega, by go_num, by rw [E.out]⟩
        case measure => simp [intOf]; omega
      · have e0 : ((l.getD k 0).toNat : Int) = 0 := by simp [show l.length ≤ k by omega]
        rw [e0] at E
        clear e0 hd
        go_wp2
        go_round
        case rel => exact ⟨k + 1, by omega, by go_num, by rw [E.out]; simp⟩
        case measure => simp [intOf]; omega
    · obtain rfl : k = 4 := by omega
      go_wp2
      go_ret
      exact ⟨by simp [getK, getV], rfl⟩
end Go.Proofs.YtnkkgclmmaakgaaDoor

/- A STRING OF BYTES turned into a slice of bytes. No Go function is spoken of here. -/
namespace Go.Proofs.YtnkkgclmmaakgaaDoor
set_option maxRecDepth 100000
open Go Go.RowKit

theorem size_bstr (l : List UInt8) : (bstr l).size = l.length := by unfold bstr; simp [ByteArray.size]
theorem bytesRow_list (l : List UInt8) (cap : Nat) : bytesRow (bstr l) cap = (byts l ++ List.replicate (cap - l.length) (Value.int .u8 0)).toArray := by
  unfold bytesRow byts
  rw [size_bstr]
  apply Array.ext'
  simp [bstr]
theorem conv_string (w : World) (l : List UInt8) : ∃ c w', (convert 9 53 (.string (bstr l))).run Tryd.prog w = .ok (.slice (some ⟨w.heap.size, 0, none⟩) l.length c) w' ∧ Sl w' (some ⟨w.heap.size, 0, none⟩) c (byts l) ∧ Below w.heap.size w w' := by
  have h := run_bytes_of_string (P := Tryd.prog) w 9 53 5 (bstr l) Tryd.underlying9 Tryd.underlying53 Tryd.underlying5
  rw [size_bstr] at h
  refine ⟨_, _, h, ⟨?_, by rw [length_byts]; exact grownCap_ge w l.length 0 5, fun h => by cases h⟩, ((Below.refl _ w).drew).alloc (Nat.le_refl _) _⟩
  refine .inr ⟨w.heap.size, 0, rfl, by rw [World.size_alloc]; show w.heap.size < w.heap.size + 1; omega, fun i hi => ?_⟩
  rw [Nat.zero_add, cell_of_row _ w.heap.size i _ _ _ (Go.heap_alloc_new w.drew _), bytesRow_list]
  rw [List.getElem?_toArray, List.getElem?_append_left hi]
/-- The same outside of a region that draws. -/
theorem wpList_conv_string {w : World} {ops : Array Oper} {rest : List Oper} {o : Oper} {a : Act} {Q : Exit → Act → World → Prop} (hgd : o.guard = none) (x : Operand)
    (ho : o.op = .convert 9 53 x) (l : List UInt8) (hx : a.eval x = .string (bstr l))
    (h : ∀ A c w', Sl w' A c (byts l) → Below w.heap.size w w' → wpList Tryd.prog ops Q rest (a.put o.dst (.slice A l.length c)) w') : wpList Tryd.prog ops Q (o :: rest) a w := by
  refine wpList_plain hgd fun _ hK => ?_
  obtain ⟨c, w', hrun, hs, hb⟩ := conv_string w l
  unfold Oper.wp execOp
  simp only [ho, hx, hrun, Sem.run_bind, Sem.run_pure, Result.andThen_ok]
  exact hK _ _ (h _ _ _ hs hb)
end Go.Proofs.YtnkkgclmmaakgaaDoor

/- LAYER 10: the document's number, Can, Caveat, Check. -/
namespace Go.Proofs.YtnkkgclmmaakgaaDoor
set_option maxRecDepth 100000
open Go Go.RowKit

theorem beq_empty (l : List UInt8) : ((bstr l).toList == ({ data := #[] } : ByteArray).toList) = decide (l = []) := bstr_beq l []
set_option maxHeartbeats 1000000 in
theorem rcan_any (c : Cav) (w : World) :
    Calls Tryd.prog 49 #[.agg (cavV c).toArray] w fun e w' => e = .returned (.bool (canC c)) ∧ Below w.heap.size w w' := by
  obtain ⟨third, text, party, id, vault⟩ := c
  have hb := (Below.refl w.heap.size w).alloc (Nat.le_refl _) (.cells (cavV ⟨third, text, party, id, vault⟩).toArray 50)
  have h1 := size_bstr text
  have h2 := size_bstr id
  have h3 := size_bstr vault
  have e1 := beq_empty text
  have e2 := beq_empty id
  have e3 := beq_empty vault
  unfold cavV
  clear h1 h2 h3 e1 e2 e3
  have h1 := size_bstr text
  have h2 := size_bstr id
  have h3 := size_bstr vault
  have e1 := bstr_toList text
  have e2 := bstr_toList id
  have e3 := bstr_toList vault
  cases third
  · go_enter Tryd.func49, Tryd.ntmps49
    go_wp2
    all_goals go_ret
    all_goals refine ⟨?_, (Below.refl _ _).alloc (Nat.le_refl _) _⟩
    all_goals simp_all [canC]
    all_goals first | (intro; omega) | (have hq : text.length ≤ 512 := (by omega); cases vault <;> simp [hq]) | (have hq : id.length ≤ 1024 := (by omega); rw [decide_eq_true hq, Bool.true_and]; exact decide_eq_decide.2 (by omega))
  · go_enter Tryd.func49, Tryd.ntmps49
    go_wp2
    all_goals go_ret
    all_goals refine ⟨?_, (Below.refl _ _).alloc (Nat.le_refl _) _⟩
    all_goals simp_all [canC]
    all_goals first | (intro; omega) | (have hq : text.length ≤ 512 := (by omega); cases vault <;> simp [hq]) | (have hq : id.length ≤ 1024 := (by omega); rw [decide_eq_true hq, Bool.true_and]; exact decide_eq_decide.2 (by omega))
theorem index_cav (A : Option Addr) (b o n c k : Nat) (hA : A = some ⟨b, o, none⟩) (hk : k < n) (w : World) :
    (Instr.indexAt 25 (.slice A n c) (.int .i64 k)).run Tryd.prog w = .ok (.pointer (some ⟨b, o + k * 5, none⟩)) w := by
  subst hA
  have h : (k : Int) < (n : Int) := by omega
  go_simp
theorem size_cav : (Tryd.prog.info? 50).map (·.size) = some 5 := by kernel_rfl
theorem size_tok : (Tryd.prog.info? 27).map (·.size) = some 36 := by kernel_rfl
theorem tokV_get (t : Tok) (A : Option Addr) (c : Nat) : (tokV t A c)[0]? = some (.int .u64 t.key) ∧ (tokV t A c)[1]? = some (.string (bstr t.id)) ∧ (tokV t A c)[2]? = some (.slice A t.cavs.length c) ∧ (tokV t A c)[3]? = some (.bool t.bound) := ⟨rfl, rfl, rfl, rfl⟩
theorem check_id {t : Tok} (h : 1024 < t.id.length) : checkT t = false := by
  unfold checkT
  rw [decide_eq_false (by omega), Bool.false_and, Bool.false_and]
theorem check_many {t : Tok} (h : 64 < t.cavs.length) : checkT t = false := by
  unfold checkT
  rw [decide_eq_false (p := t.cavs.length ≤ 64) (by omega), Bool.and_false, Bool.false_and]
theorem check_cavs {t : Tok} (h : t.id.length ≤ 1024) (h2 : t.cavs.length ≤ 64) : checkT t = t.cavs.all canC := by
  unfold checkT
  rw [decide_eq_true h, decide_eq_true h2]; rfl
theorem all_take {cs : List Cav} {k : Nat} {c : Cav} (h : (cs.take k).all canC = true) (hc : cs[k]? = some c) : (cs.take (k + 1)).all canC = canC c := by
  rw [List.take_add_one, hc, List.all_append, h]
  simp
theorem all_bad {cs : List Cav} {k : Nat} {c : Cav} (hc : cs[k]? = some c) (h : canC c = false) : cs.all canC = false := by
  rw [List.all_eq_false]
  exact ⟨c, List.mem_of_getElem? hc, by rw [h]; exact Bool.false_ne_true⟩
set_option maxRecDepth 100000 in
set_option maxHeartbeats 2000000 in
theorem rcheck_any (t : Tok) (A : Option Addr) (c : Nat) (w : World) (hs : Sl w A (c * 5) (t.cavs.flatMap cavV)) :
    Calls Tryd.prog 37 #[.agg (tokV t A c).toArray] w fun e w' => e = .returned (.bool (checkT t)) ∧ Below w.heap.size w w' := by
  have hb1 : Below w.heap.size w (w.alloc (.cells (tokV t A c).toArray 27)) := (Below.refl _ _).alloc (Nat.le_refl _) _
  have hr : Row (w.alloc (.cells (tokV t A c).toArray 27)) w.heap.size 27 (tokV t A c) := Row.new w 27 _
  have hg := tokV_get t A c
  obtain ⟨V, hV⟩ : ∃ V, V = tokV t A c := ⟨_, rfl⟩
  rw [← hV] at hb1 hr hg ⊢
  clear hV
  have hc1 : (w.alloc (.cells V.toArray 27)).cell? ⟨w.heap.size, 1, none⟩ = some (.string (bstr t.id)) := by rw [hr.cell]; exact hg.2.1
  have hc2 : (w.alloc (.cells V.toArray 27)).cell? ⟨w.heap.size, 2, none⟩ = some (.slice A t.cavs.length c) := by rw [hr.cell]; exact hg.2.2.1
  have hz := size_bstr t.id
  clear hg hr
  by_cases h1 : 1024 < t.id.length
  · have HE := Lib.hid (check_id h1)
    have h1' : (1024 : Int) < (t.id.length : Int) := by omega
    clear hs h1
    go_enter Tryd.func37, Tryd.ntmps37
    go_wp2
    go_ret
    exact ⟨by rw [HE.out]; rfl, hb1⟩
  by_cases h2 : 64 < t.cavs.length
  · have HE := Lib.hid (check_many h2)
    have h1' : (t.id.length : Int) ≤ 1024 := by omega
    have h2' : (64 : Int) < (t.cavs.length : Int) := by omega
    clear hs h1 h2
    go_enter Tryd.func37, Tryd.ntmps37
    go_wp2
    go_ret
    exact ⟨by rw [HE.out]; rfl, hb1⟩
  have HE := Lib.hid (check_cavs (t := t) (by omega) (by omega))
  have h1' : (t.id.length : Int) ≤ 1024 := by omega
  have h2' : (t.cavs.length : Int) ≤ 64 := by omega
  obtain ⟨cs, hcs⟩ : ∃ cs, cs = t.cavs := ⟨_, rfl⟩
  rw [← hcs] at hs HE hc2 h2'
  clear h1 h2 hcs
  go_enter Tryd.func37, Tryd.ntmps37
  go_wp2_with fail
  generalize w.alloc (.cells V.toArray 27) = w1 at *
  clear hc1 hc2
  go_loopw [18] (fun i wr => ∃ k : Nat, k ≤ cs.length ∧ i = .int .i64 k ∧ (cs.take k).all canC = true ∧ Below w.heap.size w wr) (fun i _ => cs.length - (intOf i).toNat)
  case atStart => exact ⟨0, by omega, rfl, rfl, hb1⟩
  case round =>
    clear hb1
    obtain ⟨k, hk, rfl, hall, hb⟩ := hrel
    by_cases hlt : k < cs.length
    · obtain ⟨cv, hcv⟩ : ∃ cv, cs[k]? = some cv := ⟨_, List.getElem?_eq_getElem hlt⟩
      obtain ⟨b, o, rfl, hb0, hr0⟩ := hs.rd.get (i := 0) (by rw [length_cavsV]; omega)
      clear hb0 hr0
      have hix := index_cav (some ⟨b, o, none⟩) b o cs.length c k rfl hlt
      have hrg := (hs.later (Nat.le_refl _) hb).thing (k := 5) (fun _ _ => rfl) k cv hcv
      have HA := Lib.hid (all_take hall hcv)
      have HB := Lib.hid (all_bad hcv)
      have hcan := Lib.hid (rcan_any cv)
      have hzf := Lib.hid (show (Tryd.prog.info? 50).map (·.size) = some (cavV cv).length from size_cav)
      have hzf2 := Lib.hid (show (Tryd.prog.info? 50).map (·.size) = some (cavV cv).toArray.size from size_cav)
      have hof := Lib.hid (show (cavV cv).toArray.all (·.oneCell') = true from all_one (fun v hv => cavV_one [cv] v (by simpa using hv)))
      obtain ⟨V2, hV2q⟩ : ∃ V, V = cavV cv := ⟨_, rfl⟩
      rw [← hV2q] at hrg hcan hzf hzf2 hof
      have hV2 := Lib.hid (show (5 : Nat) = V2.toArray.size by rw [hV2q]; rfl)
      clear hV2q hcv hall
      go_wp2_with (first
        | (with_reducible refine wpList_load_mid rfl 50 (.tmp 20) rfl b (o + k * 5) rfl V2 _ hrg Tryd.underlying50 rfl hzf.out ?_)
        | (with_reducible refine wpList_store_row rfl 50 (.tmp 4) (.tmp 21) rfl wr.heap.size V2.toArray rfl rfl 50 _ (heap_alloc_new wr _) hzf2.out (Eq.trans (by kernel_rfl) hV2.out) hof.out ?_; refine Hid.out ?_))
      refine Lib.hid ?_
      generalize hw5 : World.setRow _ _ _ = w5
      obtain ⟨r5, hb5⟩ := row_new_set (xs := V2) hw5
      have R5 := Lib.hid (show w5.heap[wr.heap.size]? = some (.cells V2.toArray 50 (0, 0)) from r5)
      have hbw5 := hb.trans (hb5.mono hb.size)
      clear hw5 r5 hb5
      cases hcan2 : canC cv with
      | false =>
        rw [hcan2] at hcan
        have HF := Lib.hid (HB.out hcan2)
        clear hcan2
        go_wp2_with (first
          | (with_reducible refine wpList_load_row rfl 50 (.tmp 4) rfl wr.heap.size rfl 50 V2.toArray (0, 0) _ R5.out Tryd.underlying50 rfl hzf2.out ?_)
          | (go_at_call 49; refine (hcan.out _).mono ?_; rintro e w6 ⟨rfl, hb6⟩; have hbw6 := hbw5.trans (hb6.mono hbw5.size)))
        go_ret
        exact ⟨by rw [HE.out, HF.out]; rfl, hbw6⟩
      | true =>
        rw [hcan2] at hcan HA
        clear hcan2
        go_wp2_with (first
          | (with_reducible refine wpList_load_row rfl 50 (.tmp 4) rfl wr.heap.size rfl 50 V2.toArray (0, 0) _ R5.out Tryd.underlying50 rfl hzf2.out ?_)
          | (go_at_call 49; refine (hcan.out _).mono ?_; rintro e w6 ⟨rfl, hb6⟩; have hbw6 := hbw5.trans (hb6.mono hbw5.size)))
        go_roundw
        case rel => exact ⟨k + 1, by omega, by go_num, HA.out, hbw6⟩
        case measure => simp [intOf]; omega
    · obtain rfl : k = cs.length := by omega
      rw [List.take_length] at hall
      have HL := Lib.hid hall
      clear hlt hk hs hall h2'
      generalize cs.length = n at *
      go_wp2
      go_ret
      exact ⟨by rw [HE.out, HL.out]; rfl, hb⟩
end Go.Proofs.YtnkkgclmmaakgaaDoor
