/- LAYER 3: SHA-256 as a list function; a digest in memory; steps of regions on the middle of a block. -/
import Derived.Test.YtaleakofpeacpaaDoorPad
import Derived.Test.YtaleakofpeacpaaDoorCmp
import Derived.Deep.MidRow
namespace Go.Proofs.YtaleakofpeacpaaDoor
open Go Go.RowKit

/-! ### Lists -/
/-- The eight words with which it begins. -/
def S0 : St := ⟨1779033703#32, 3144134277#32, 1013904242#32, 2773480762#32, 1359893119#32, 2600822924#32, 528734635#32, 1541459225#32⟩
theorem start_words : startV = .agg (words S0.list).toArray := by kernel_rfl
/-- The k-th 64 bytes. -/
def blkAt (l : List UInt8) (k : Nat) : List UInt8 := (l.drop (64 * k)).take 64
/-- The eight words behind k blocks. -/
def stK (l : List UInt8) : Nat → St
  | 0 => S0
  | k + 1 => compS (blkAt l k) (stK l k)
theorem length_blkAt (l : List UInt8) (k : Nat) (h : 64 * (k + 1) ≤ l.length) : (blkAt l k).length = 64 := by
  unfold blkAt; rw [List.length_take, List.length_drop]; omega
theorem blkAt_append (l m : List UInt8) (k : Nat) (h : 64 * (k + 1) ≤ l.length) : blkAt (l ++ m) k = blkAt l k := by
  unfold blkAt
  rw [List.drop_append_of_le_length (by omega), List.take_append_of_le_length (by rw [List.length_drop]; omega)]
theorem stK_append (l m : List UInt8) (k : Nat) (h : 64 * k ≤ l.length) : stK (l ++ m) k = stK l k := by
  induction k with
  | zero => rfl
  | succ k ih => rw [stK, stK, ih (by omega), blkAt_append l m k h]
/-- All eight words behind the blocks of a message that is padded already. -/
def shaS (l : List UInt8) : St := stK (l ++ padL l.length) ((l.length + (padL l.length).length) / 64)
def wordsB (s : List (BitVec 32)) : List UInt8 := s.flatMap bytesL
/-- SHA-256. -/
def shaL (l : List UInt8) : List UInt8 := wordsB (shaS l).list
theorem length_shaL (l : List UInt8) : (shaL l).length = 32 := rfl
theorem padded_mod (l : List UInt8) : (l.length + (padL l.length).length) % 64 = 0 := by
  rw [length_padL]; unfold noughts; omega

/-! ### A digest -/
/-- The open block holds what is behind the full ones. -/
def Opn (l o : List UInt8) : Prop := o.length = 64 ∧ o.take (l.length % 64) = l.drop (64 * (l.length / 64))
def digV (s : St) (o : List UInt8) (m : Nat) : List Value := words s.list ++ (byts o ++ [.int .u64 m])
/-- Block g is a digest to which l was written. -/
def Dgt (w : World) (g : Nat) (l : List UInt8) : Prop := 1 < g ∧ ∃ o, Opn l o ∧ Row w g 50 (digV (stK l (l.length / 64)) o l.length)
theorem opn_nil : Opn [] (List.replicate 64 0) := ⟨by simp, by simp⟩
theorem splice_take {o c : List UInt8} {r : Nat} (hr : r ≤ o.length) : (splice o r c).take (r + c.length) = o.take r ++ c := by
  unfold splice
  rw [← List.append_assoc, List.take_append_of_le_length (by rw [List.length_append, List.length_take]; omega), List.take_of_length_le (by rw [List.length_append, List.length_take]; omega)]
theorem opn_take {l o : List UInt8} (c : List UInt8) (h : Opn l o) : (splice o (l.length % 64) c).take (l.length % 64 + c.length) = (l ++ c).drop (64 * (l.length / 64)) := by
  rw [splice_take (by rw [h.1]; omega), h.2, List.drop_append_of_le_length (by omega)]
theorem opn_more {l o c : List UInt8} (h : Opn l o) (hc : l.length % 64 + c.length < 64) :
    Opn (l ++ c) (splice o (l.length % 64) c) ∧ stK (l ++ c) ((l ++ c).length / 64) = stK l (l.length / 64) := by
  have e1 : (l ++ c).length / 64 = l.length / 64 := by rw [List.length_append]; omega
  have e2 : (l ++ c).length % 64 = l.length % 64 + c.length := by rw [List.length_append]; omega
  refine ⟨⟨by rw [length_splice _ _ _ (by rw [h.1]; omega), h.1], ?_⟩, ?_⟩
  · rw [e1, e2, opn_take c h]
  · rw [e1, stK_append _ _ _ (by omega)]
theorem opn_full {l o c : List UInt8} (h : Opn l o) (hc : l.length % 64 + c.length = 64) :
    Opn (l ++ c) (splice o (l.length % 64) c) ∧ stK (l ++ c) ((l ++ c).length / 64) = compS (splice o (l.length % 64) c) (stK l (l.length / 64)) := by
  have e1 : (l ++ c).length / 64 = l.length / 64 + 1 := by rw [List.length_append]; omega
  have e2 : (l ++ c).length % 64 = 0 := by rw [List.length_append]; omega
  have hl : (splice o (l.length % 64) c).length = 64 := by rw [length_splice _ _ _ (by rw [h.1]; omega), h.1]
  have hd : (l ++ c).drop (64 * (l.length / 64)) = splice o (l.length % 64) c := by
    rw [← opn_take c h, List.take_of_length_le (by rw [hl]; omega)]
  refine ⟨⟨hl, ?_⟩, ?_⟩
  · rw [e1, e2, List.take_zero, List.drop_of_length_le (by rw [List.length_append]; omega)]
  · rw [e1, stK, blkAt, hd, List.take_of_length_le (by rw [hl]; exact Nat.le_refl _), stK_append _ _ _ (by omega)]

/-! ### The cells of a digest -/
theorem length_list (s : St) : s.list.length = 8 := rfl
theorem length_digV (s : St) (o : List UInt8) (m : Nat) (ho : o.length = 64) : (digV s o m).length = 73 := by
  unfold digV; simp [length_words, length_byts, ho, length_list]
theorem digV_many (s : St) (o : List UInt8) (m : Nat) (ho : o.length = 64) : (digV s o m)[72]? = some (.int .u64 m) := by
  unfold digV
  rw [List.getElem?_append_right (by rw [length_words, length_list]; omega), List.getElem?_append_right (by rw [length_words, length_byts, length_list]; omega)]
  simp [length_words, length_byts, ho, length_list]
theorem digV_set (s : St) (o : List UInt8) (m n : Nat) (ho : o.length = 64) : (digV s o m).set 72 (.int .u64 n) = digV s o n := by
  unfold digV
  rw [List.set_append_right _ _ (by rw [length_words, length_list]; omega), List.set_append_right _ _ (by rw [length_words, length_byts, length_list]; omega)]
  simp [length_words, length_byts, ho, length_list]
theorem splice_mid {α : Type} (A B C D : List α) (r : Nat) (h : r + D.length ≤ B.length) : splice (A ++ (B ++ C)) (A.length + r) D = A ++ (splice B r D ++ C) := by
  unfold splice
  rw [List.take_length_add_append, List.take_append_of_le_length (by omega), Nat.add_assoc, List.drop_length_add_append, List.drop_append_of_le_length h]
  simp
theorem byts_splice (o c : List UInt8) (r : Nat) : byts (splice o r c) = splice (byts o) r (byts c) := by
  unfold splice
  rw [byts_append, byts_append, length_byts]
  unfold byts; rw [List.map_take, List.map_drop]
theorem digV_copy (s : St) (o c : List UInt8) (m r : Nat) (ho : o.length = 64) (h : r + c.length ≤ 64) : splice (digV s o m) (8 + r) (byts c) = digV s (splice o r c) m := by
  unfold digV
  have := splice_mid (words s.list) (byts o) [.int .u64 m] (byts c) r (by rw [length_byts, length_byts]; omega)
  rw [length_words, length_list] at this
  rw [this, byts_splice]
theorem digV_words (s t : St) (o : List UInt8) (m : Nat) : splice (digV s o m) 0 (words t.list) = digV t o m := by
  unfold digV splice
  rw [List.take_zero, List.nil_append, Nat.zero_add, length_words, length_list]
  congr 1
theorem range_of_row {w : World} {g : Nat} {t : TypeId} {A B C : List Value} (h : Row w g t (A ++ (B ++ C))) : w.rangeAt g A.length B := by
  intro j v hj
  have hl : j < B.length := (List.getElem?_eq_some_iff.1 hj).1
  rw [h.cell, List.getElem?_append_right (by omega), show A.length + j - A.length = j by omega, List.getElem?_append_left hl, hj]
theorem digV_range0 {w : World} {g : Nat} {t : TypeId} {s : St} {o : List UInt8} {m : Nat} (h : Row w g t (digV s o m)) : w.rangeAt g 0 (words s.list) :=
  range_of_row (A := []) h
theorem digV_range8 {w : World} {g : Nat} {t : TypeId} {s : St} {o : List UInt8} {m : Nat} (h : Row w g t (digV s o m)) : w.rangeAt g 8 (byts o) := by
  have := range_of_row (A := words s.list) h
  rwa [length_words, length_list] at this

/-! ### One block alone is written -/
theorem grown_of_below {w w' : World} (h : Below w.heap.size w w') (row : Option Nat) : w.grownBy w' row := ⟨h.os, h.tape, h.output, h.size, fun k hk _ => h.block k hk⟩
theorem below_of_grown {w w' : World} (h : w.grownBy w' none) : Below w.heap.size w w' := ⟨h.os, h.tape, h.output, h.size, fun k hk => h.block k hk (by simp)⟩
theorem grown_trans {a b c : World} {row : Option Nat} (h : a.grownBy b row) (k : b.grownBy c row) : a.grownBy c row :=
  ⟨k.os.trans h.os, k.tape.trans h.tape, k.output.trans h.output, Nat.le_trans h.size k.size, fun i hi hr => (k.block i (Nat.lt_of_lt_of_le hi h.size) hr).trans (h.block i hi hr)⟩
theorem grown_refl (w : World) (row : Option Nat) : w.grownBy w row := ⟨rfl, rfl, rfl, Nat.le_refl _, fun _ _ _ => rfl⟩
theorem grown_setRow (w : World) (g : Nat) (cs : Array Value) : w.grownBy (w.setRow g cs) (some g) :=
  ⟨rfl, rfl, rfl, by simp [World.setRow], fun k _ hr => setRow_other w g k cs (fun e => hr (by rw [e]))⟩
theorem grown_setCell (w : World) (g i : Nat) (v : Value) : w.grownBy (w.setCell ⟨g, i, none⟩ v) (some g) :=
  ⟨rfl, rfl, rfl, by simp [World.setCell], fun k _ hr => Below.heap_setCell _ _ _ _ (fun e => hr (by rw [e]))⟩
theorem Row.setRow {w : World} {g t : Nat} {xs : List Value} (h : Row w g t xs) (ys : List Value) : Row (w.setRow g ys.toArray) g t ys :=
  setRow_heap w g _ _ t _ h
theorem Row.grown {w w' : World} {g k t : Nat} {xs : List Value} (h : Row w g t xs) (hg : w.grownBy w' (some k)) (hne : g ≠ k) : Row w' g t xs := by
  have hl := h.lt
  unfold Row at h ⊢
  rw [hg.block g hl (fun e => hne (Option.some.inj e))]; exact h
theorem Dgt.lt {w : World} {g : Nat} {l : List UInt8} (h : Dgt w g l) : g < w.heap.size := by
  obtain ⟨_, o, _, h⟩ := h; exact h.lt
theorem Dgt.later {w w' : World} {g : Nat} {l : List UInt8} {B : Nat} (h : Dgt w g l) (hb : Below B w w') (hg : g < B) : Dgt w' g l := by
  obtain ⟨hq, o, ho, h⟩ := h; exact ⟨hq, o, ho, h.later hb hg⟩
theorem Dgt.grown {w w' : World} {g k : Nat} {l : List UInt8} (h : Dgt w g l) (hg : w.grownBy w' (some k)) (hne : g ≠ k) : Dgt w' g l := by
  obtain ⟨hq, o, ho, h⟩ := h; exact ⟨hq, o, ho, h.grown hg hne⟩
theorem Dgt.many {w : World} {g : Nat} {l : List UInt8} (h : Dgt w g l) : w.cell? ⟨g, 72, none⟩ = some (.int .u64 l.length) := by
  obtain ⟨_, o, ho, h⟩ := h
  exact (h.cell 72).trans (digV_many _ _ _ ho.1)
/-- Behind a whole number of blocks the words are what they came to. -/
theorem Dgt.range {w : World} {g : Nat} {l : List UInt8} (h : Dgt w g (l ++ padL l.length)) : w.rangeAt g 0 (words (shaS l).list) := by
  obtain ⟨_, o, _, h⟩ := h
  rw [List.length_append] at h
  exact digV_range0 h
theorem Cube.grown {w w' : World} {k : Nat} (h : Cube w) (hg : w.grownBy w' (some k)) (hne : 1 < k) : Cube w' :=
  ⟨fun i hi => by rw [World.cell?_of_block (w := w) (hg.block 1 h.size (fun e => by have := Option.some.inj e; omega))]; exact h.at_ i hi⟩
/-- A slice that lies elsewhere reads as it did. -/
theorem Sl.apart {w w' : World} {A : Option Addr} {g c : Nat} {xs : List Value} (h : Sl w A c xs) (hg : w.grownBy w' (some g)) (hne : 0 < xs.length → ∀ a, A = some a → a.block ≠ g) : Sl w' A c xs := by
  refine ⟨?_, h.room, h.bare⟩
  rcases h.rd with hn | ⟨b, o, hA, hlt, hc⟩
  · exact .inl hn
  · subst hA
    refine .inr ⟨b, o, rfl, Nat.lt_of_lt_of_le hlt hg.size, fun i hi => ?_⟩
    rw [World.cell?_of_block (w := w) (hg.block b hlt (fun e => hne (by omega) _ rfl (Option.some.inj e)))]
    exact hc i hi

theorem Sl.block_lt {w : World} {A : Option Addr} {c : Nat} {xs : List Value} (h : Sl w A c xs) (hx : 0 < xs.length) {a : Addr} (ha : A = some a) : a.block < w.heap.size := by
  obtain ⟨b, o, hA, hlt, _⟩ := h.rd.get hx
  rw [ha] at hA; cases hA; exact hlt
/-- A slice of the call's own lies in a block of its own. -/
theorem own_apart {w : World} {base t n c g : Nat} {A : Option Addr} {xs : List Value} (h : w.ownsRow base t 1 (.slice A n c) n xs) (hg : g < base) (a : Addr) (ha : A = some a) : a.block ≠ g := by
  subst ha
  rcases h.2 with ⟨h1, _⟩ | ⟨g', cap', cur, hv, hbg, _⟩
  · cases h1
  · cases hv
    show g' ≠ g
    omega
theorem own_grown {w w' : World} {base t n g : Nat} {v : Value} {xs : List Value} (h : w.ownsRow base t 1 v n xs) (hg : w.grownBy w' (some g)) (hlt : g < base) : w'.ownsRow base t 1 v n xs := by
  refine ⟨h.1, ?_⟩
  rcases h.2 with hn | ⟨g', cap, cur, rfl, hbg, hcur, rest⟩
  · exact .inl hn
  · exact .inr ⟨g', cap, cur, rfl, hbg, (hg.block g' (Array.getElem?_eq_some_iff.1 hcur).1 (fun e => by have := Option.some.inj e; omega)).trans hcur, rest⟩
theorem Dgt.kept {w w' : World} {g : Nat} {l : List UInt8} {row : Option Nat} (h : Dgt w g l) (hg : w.grownBy w' row) (hne : ∀ k, row = some k → g < k) : Dgt w' g l := by
  obtain ⟨hq, o, ho, h⟩ := h
  refine ⟨hq, o, ho, ?_⟩
  have hl := h.lt
  unfold Row at h ⊢
  rw [hg.block g hl (fun e => by have := hne g e.symm; omega)]; exact h
/-- The beginning of what a slice holds. -/
theorem Sl.pre {w : World} {A : Option Addr} {c : Nat} {xs ys : List Value} (h : Sl w A c (xs ++ ys)) : Sl w A c xs := by
  refine ⟨?_, by have := h.room; rw [List.length_append] at this; omega, h.bare⟩
  by_cases h0 : xs = []
  · exact .inl h0
  · have hx : 0 < xs.length := List.length_pos_iff.2 h0
    rcases h.rd with hn | ⟨b, o, hA, hlt, hc⟩
    · exact absurd (List.append_eq_nil_iff.1 hn).1 h0
    · refine .inr ⟨b, o, hA, hlt, fun i hi => ?_⟩
      rw [hc i (by rw [List.length_append]; omega), List.getElem?_append_left hi]
theorem blkAt_cut (l : List UInt8) (k : Nat) : (byts l).drop (64 * k) = byts (blkAt l k) ++ byts (l.drop (64 * k + 64)) := by
  rw [← byts_append]
  unfold blkAt byts
  rw [← List.drop_drop, List.take_append_drop, List.map_drop]
/-! ### Steps of a region, in the middle of a block -/
section
variable {P : Program} {w : World} {ops : Array Oper} {o : Oper} {a : Act} {K : Act → World → Prop} {Q : Exit → Act → World → Prop} {E : Prop}
theorem put_none (l : List Value) (d : List Deferred) (v : Value) : ({ tmps := l.toArray, defers := d } : Act).put none v = { tmps := l.toArray, defers := d } := rfl
theorem step_load_mid (dst : Option Tmp) (hdst : o.dst = dst) (hgd : Region.wanted o (yielded ops a.tmps) = true) (ty : TypeId) (x : Operand) (ho : o.op = .load ty x)
    (b off : Nat) (hx : a.eval x = .pointer (some ⟨b, off, none⟩)) (cs : List Value) (d : TypeDesc) (hc : w.rangeAt b off cs)
    (hu : P.underlying ty = some d) (hd : d.isRow = true) (hi : (P.info? ty).map (·.size) = some cs.length)
    (h : K (a.put dst (.agg cs.toArray)) w) : if Region.wanted o (yielded ops a.tmps) = true then Oper.wp P o a w K Q else E := by
  subst hdst; rw [if_pos hgd]; exact wp_load_mid ty x ho b off hx cs d hc hu hd hi h
theorem run_load_op (ty : TypeId) (x : Operand) (ho : o.op = .load ty x)
    (b off : Nat) (hx : a.eval x = .pointer (some ⟨b, off, none⟩)) (cs : List Value) (d : TypeDesc) (hc : w.rangeAt b off cs)
    (hu : P.underlying ty = some d) (hd : d.isRow = true) (hi : (P.info? ty).map (·.size) = some cs.length) : (execOp a.eval o).run P w = .ok (.value (.agg cs.toArray)) w := by
  unfold execOp
  simp only [ho, hx, Instr.loadAt, Instr.sureAddr, Sem.run_bind, Sem.run_pure, Result.andThen_ok, run_loadVar_mid w b off ty cs d hc hu hd hi]
theorem run_store_row (ty : TypeId) (g off : Nat) (t : TypeId) (cur cs : List Value) (hr : Row w g t cur) (hfit : off + cs.length ≤ cur.length) (hi : (P.info? ty).map (·.size) = some cs.length) (h1 : ∀ v ∈ cs, v.oneCell' = true) :
    (Instr.storeAt ty (.pointer (some ⟨g, off, none⟩)) (.agg cs.toArray)).run P w = .ok () (w.setRow g (splice cur off cs).toArray) := by
  have hst := run_storeCells_at P g off t cs 0 cur.toArray w hr (by simpa using hfit) h1
  cases hq : P.info? ty with
  | none => simp [hq] at hi
  | some i =>
    have hs : i.size = cs.length := by simpa [hq] using hi
    simp only [Nat.add_zero] at hst
    simp [Instr.storeAt, Instr.sureAddr, storeVar, sizeOf, typeInfo, hq, Value.cells, hs, hst, splice]
theorem step_store_row (dst : Option Tmp) (hdst : o.dst = dst) (hgd : Region.wanted o (yielded ops a.tmps) = true) (ty : TypeId) (x y : Operand) (ho : o.op = .store ty x y)
    (g off : Nat) (t : TypeId) (cur cs : List Value) (hx : a.eval x = .pointer (some ⟨g, off, none⟩)) (hy : a.eval y = .agg cs.toArray) (hr : Row w g t cur) (hfit : off + cs.length ≤ cur.length) (hi : (P.info? ty).map (·.size) = some cs.length) (h1 : ∀ v ∈ cs, v.oneCell' = true)
    (h : ∀ w', Row w' g t (splice cur off cs) → w.grownBy w' (some g) → K (a.put dst undef) w') : if Region.wanted o (yielded ops a.tmps) = true then Oper.wp P o a w K Q else E := by
  subst hdst
  rw [if_pos hgd]
  unfold Oper.wp execOp
  simp only [ho, hx, hy, run_store_row ty g off t cur cs hr hfit hi h1, Sem.run_bind, Sem.run_pure, Result.andThen_ok]
  exact h _ (hr.setRow _) (grown_setRow _ _ _)
theorem step_copy_row (dst : Option Tmp) (hdst : o.dst = dst) (hgd : Region.wanted o (yielded ops a.tmps) = true) (d s : Operand) (dT sT : TypeId)
    (ho : o.op = .call { callee := .builtin .copy, args := #[d, s], argTypes := #[dT, sT] }) (elem : TypeId) (hu : P.underlying dT = some (.slice elem)) (hsz : (P.info? elem).map (·.size) = some 1)
    (g off dLen dCap : Nat) (ad : Addr) (sLen sCap : Nat) (hd : a.eval d = .slice (some ⟨g, off, none⟩) dLen dCap) (hs : a.eval s = .slice (some ad) sLen sCap)
    (t : TypeId) (cur : List Value) (hg : Row w g t cur) (cs : List Value) (n : Nat) (hl : cs.length = n) (hn : n = Nat.min sLen dLen)
    (hsrc : ∀ j v, cs[j]? = some v → w.cell? (ad.add j) = some v) (hfit : off + cs.length ≤ cur.length) (h1 : ∀ v ∈ cs, v.oneCell' = true)
    (h : ∀ w', Row w' g t (splice cur off cs) → w.grownBy w' (some g) → K (a.put dst (goInt n)) w') : if Region.wanted o (yielded ops a.tmps) = true then Oper.wp P o a w K Q else E := by
  subst hl hdst
  rw [if_pos hgd]
  have hrun := run_copy_row (P := P) w dT sT o.type elem g off dLen dCap ad sLen sCap cur.toArray t cs hu hsz hg hn hsrc (by simpa using hfit) h1
  unfold Oper.wp
  simp [execOp, ho, resolve, invoke, builtin, hd, hs, hrun, Result.andThen]
  have hR := hg.setRow (splice cur off cs)
  have hG := grown_setRow w g (splice cur off cs).toArray
  simp only [splice] at hR hG h
  exact h _ hR hG
end
end Go.Proofs.YtaleakofpeacpaaDoor
