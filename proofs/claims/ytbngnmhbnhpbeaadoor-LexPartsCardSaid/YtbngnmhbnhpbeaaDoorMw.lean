/- MEMORY, WRITTEN: what lies elsewhere stays; slices cut out of slices; rows written whole; steps of regions. No Go function is spoken of here. -/
import Derived.Test.YtbngnmhbnhpbeaaDoorM
import Derived.Test.YtbngnmhbnhpbeaaDoorZ
import Derived.Deep.MidRow
import Derived.Laws.Rows
import Derived.Laws.Tables
import Derived.Laws.CopyRow
import Derived.Laws.ResultCell
namespace Go.Proofs.YtbngnmhbnhpbeaaDoor
open Go Go.RowKit

theorem all_one {xs : List Value} (h : ∀ v ∈ xs, v.oneCell' = true) : xs.toArray.all (·.oneCell') = true := by
  simpa using h
theorem row_new_set {w w3 : World} {old : Array Value} {t : TypeId} {xs : List Value} (h : (w.alloc (.cells old t)).setRow w.heap.size xs.toArray = w3) : Row w3 w.heap.size t xs ∧ Below w.heap.size w w3 := by
  subst h
  exact ⟨setRow_heap _ _ _ _ _ _ (heap_alloc_new w _), below_setRow ((Below.refl _ _).alloc (Nat.le_refl _) _) (Nat.le_refl _) _⟩
theorem range_of_row {w : World} {g : Nat} {t : TypeId} {A B C : List Value} (h : Row w g t (A ++ (B ++ C))) : w.rangeAt g A.length B := by
  intro j v hj
  have hl : j < B.length := (List.getElem?_eq_some_iff.1 hj).1
  rw [h.cell, List.getElem?_append_right (by omega), show A.length + j - A.length = j by omega, List.getElem?_append_left hl, hj]
theorem grown_of_below {w w' : World} (h : Below w.heap.size w w') (row : Option Nat) : w.grownBy w' row := ⟨h.os, h.tape, h.output, h.size, fun k hk _ => h.block k hk⟩
theorem below_of_grown {w w' : World} (h : w.grownBy w' none) : Below w.heap.size w w' := ⟨h.os, h.tape, h.output, h.size, fun k hk => h.block k hk (by simp)⟩
theorem grown_trans {a b c : World} {row : Option Nat} (h : a.grownBy b row) (k : b.grownBy c row) : a.grownBy c row :=
  ⟨k.os.trans h.os, k.tape.trans h.tape, k.output.trans h.output, Nat.le_trans h.size k.size, fun i hi hr => (k.block i (Nat.lt_of_lt_of_le hi h.size) hr).trans (h.block i hi hr)⟩
theorem grown_refl (w : World) (row : Option Nat) : w.grownBy w row := ⟨rfl, rfl, rfl, Nat.le_refl _, fun _ _ _ => rfl⟩
theorem grown_setRow (w : World) (g : Nat) (cs : Array Value) : w.grownBy (w.setRow g cs) (some g) :=
  ⟨rfl, rfl, rfl, by simp [World.setRow], fun k _ hr => setRow_other w g k cs (fun e => hr (by rw [e]))⟩
theorem grown_setCell (w : World) (g i : Nat) (v : Value) : w.grownBy (w.setCell ⟨g, i, none⟩ v) (some g) :=
  ⟨rfl, rfl, rfl, by simp [World.setCell], fun k _ hr => Below.heap_setCell _ _ _ _ (fun e => hr (by rw [e]))⟩
theorem Row.setRow {w : World} {g t : Nat} {xs : List Value} (h : Row w g t xs) (ys : List Value) : Row (w.setRow g ys.toArray) g t ys :=
  setRow_heap w g _ _ t _ h
theorem Row.grown {w w' : World} {g k t : Nat} {xs : List Value} (h : Row w g t xs) (hg : w.grownBy w' (some k)) (hne : g ≠ k) : Row w' g t xs := by
  have hl := h.lt
  unfold Row at h ⊢
  rw [hg.block g hl (fun e => hne (Option.some.inj e))]; exact h
/-- A slice that lies elsewhere reads as it did. -/
theorem Sl.apart {w w' : World} {A : Option Addr} {g c : Nat} {xs : List Value} (h : Sl w A c xs) (hg : w.grownBy w' (some g)) (hne : 0 < xs.length → ∀ a, A = some a → a.block ≠ g) : Sl w' A c xs := by
  refine ⟨?_, h.room, h.bare⟩
  rcases h.rd with hn | ⟨b, o, hA, hlt, hc⟩
  · exact .inl hn
  · subst hA
    refine .inr ⟨b, o, rfl, Nat.lt_of_lt_of_le hlt hg.size, fun i hi => ?_⟩
    rw [World.cell?_of_block (w := w) (hg.block b hlt (fun e => hne (by omega) _ rfl (Option.some.inj e)))]
    exact hc i hi
theorem Sl.block_lt {w : World} {A : Option Addr} {c : Nat} {xs : List Value} (h : Sl w A c xs) (hx : 0 < xs.length) {a : Addr} (ha : A = some a) : a.block < w.heap.size := by
  obtain ⟨b, o, hA, hlt, _⟩ := h.rd.get hx
  rw [ha] at hA; cases hA; exact hlt
/-- A slice of the call's own lies in a block of its own. -/
theorem own_apart {w : World} {base t n c g : Nat} {A : Option Addr} {xs : List Value} (h : w.ownsRow base t 1 (.slice A n c) n xs) (hg : g < base) (a : Addr) (ha : A = some a) : a.block ≠ g := by
  subst ha
  rcases h.2 with ⟨h1, _⟩ | ⟨g', cap', cur, hv, hbg, _⟩
  · cases h1
  · cases hv
    show g' ≠ g
    omega
theorem own_grown {w w' : World} {base t n g : Nat} {v : Value} {xs : List Value} (h : w.ownsRow base t 1 v n xs) (hg : w.grownBy w' (some g)) (hlt : g < base) : w'.ownsRow base t 1 v n xs := by
  refine ⟨h.1, ?_⟩
  rcases h.2 with hn | ⟨g', cap, cur, rfl, hbg, hcur, rest⟩
  · exact .inl hn
  · exact .inr ⟨g', cap, cur, rfl, hbg, (hg.block g' (Array.getElem?_eq_some_iff.1 hcur).1 (fun e => by have := Option.some.inj e; omega)).trans hcur, rest⟩
/-- The beginning of what a slice holds. -/
theorem Sl.pre {w : World} {A : Option Addr} {c : Nat} {xs ys : List Value} (h : Sl w A c (xs ++ ys)) : Sl w A c xs := by
  refine ⟨?_, by have := h.room; rw [List.length_append] at this; omega, h.bare⟩
  by_cases h0 : xs = []
  · exact .inl h0
  · have hx : 0 < xs.length := List.length_pos_iff.2 h0
    rcases h.rd with hn | ⟨b, o, hA, hlt, hc⟩
    · exact absurd (List.append_eq_nil_iff.1 hn).1 h0
    · refine .inr ⟨b, o, hA, hlt, fun i hi => ?_⟩
      rw [hc i (by rw [List.length_append]; omega), List.getElem?_append_left hi]
theorem Sl.from {w : World} {b o c k : Nat} {xs : List Value} (h : Sl w (some ⟨b, o, none⟩) c xs) (hk : k ≤ xs.length) {A2 : Addr} (hA : A2 = if c = k then ⟨b, o, none⟩ else ⟨b, o + k, none⟩) : Sl w (some A2) (c - k) (xs.drop k) := by
  subst hA
  split
  · have := h.room
    have e : xs.drop k = [] := List.drop_of_length_le (by omega)
    rw [e]
    exact ⟨.inl rfl, by simp, fun h => by cases h⟩
  · exact h.cut hk
theorem from_block {b o c k : Nat} {A2 : Addr} (hA : A2 = if c = k then ⟨b, o, none⟩ else ⟨b, o + k, none⟩) : A2.block = b := by
  subst hA; split <;> rfl
theorem Rd.block {w : World} {g : Nat} {t : TypeId} {fr : Nat × Nat} {xs : List Value} (h : w.heap[g]? = some (.cells xs.toArray t fr)) : Rd w (some ⟨g, 0, none⟩) xs :=
  .inr ⟨g, 0, rfl, (Array.getElem?_eq_some_iff.1 h).1, fun i _ => by rw [Nat.zero_add, cell_of_row w g i _ t fr h]; simp⟩
theorem Sl.take {w : World} {A : Option Addr} {c k : Nat} {xs : List Value} (h : Sl w A c xs) : Sl w A c (xs.take k) := by
  have e : xs = xs.take k ++ xs.drop k := (List.take_append_drop k xs).symm
  rw [e] at h
  exact h.pre
/-- A slice's part 'b[i:j]': nil let in. -/
theorem cut_run (A : Option Addr) (c : Nat) (l : List UInt8) (w0 : World) (h : Sl w0 A c (byts l)) (i j : Nat) (hi : i ≤ j) (hj : j ≤ l.length) :
    ∃ A' : Option Addr, (∀ w, (Instr.sliceAt 48 (.slice A l.length c) (some (.int .i64 i)) (some (.int .i64 j)) none).run Tryd.prog w = .ok (.slice A' (j - i) (c - i)) w) ∧
      (∀ w, j = l.length → (Instr.sliceAt 48 (.slice A l.length c) (some (.int .i64 i)) none none).run Tryd.prog w = .ok (.slice A' (j - i) (c - i)) w) ∧
      Sl w0 A' (c - i) (byts ((l.drop i).take (j - i))) := by
  have hr := h.room
  rw [length_byts] at hr
  cases A with
  | none =>
    have hc := h.bare rfl
    subst hc
    have hl : l.length = 0 := by omega
    obtain rfl : l = [] := List.eq_nil_of_length_eq_zero hl
    have ej : j = 0 := by simpa using hj
    have ei : i = 0 := by omega
    subst ej ei
    clear hr hl hi hj
    refine ⟨none, fun w => ?_, fun w hx => ?_, ?_⟩
    · clear h; go_simp
    · clear h hx; go_simp
    · exact h
  | some a =>
    refine ⟨some (if c = i then a else a.add i), fun w => ?_, fun w he => ?_, ?_⟩
    · have h1 : (i : Int) ≤ (j : Int) := by omega
      have h2 : (j : Int) ≤ (c : Int) := by omega
      clear h hi hj hr
      go_simp
      split <;> rfl
    · have h3 : (i : Int) ≤ (l.length : Int) := by omega
      have h2 : (l.length : Int) ≤ (c : Int) := by omega
      clear h hi hj hr
      subst he
      generalize l.length = n at *
      go_simp
      split <;> rfl
    · have eb : byts ((l.drop i).take (j - i)) = ((byts l).drop i).take (j - i) := by unfold byts; rw [List.map_take, List.map_drop]
      rw [eb]
      by_cases h0 : 0 < l.length
      · obtain ⟨b, o, he, _⟩ := h.rd.get (i := 0) (by rw [length_byts]; exact h0)
        cases he
        rw [Addr.add_lit]
        exact (h.from (by rw [length_byts]; omega) rfl).take
      · obtain rfl : l = [] := List.eq_nil_of_length_eq_zero (by omega)
        exact ⟨.inl (by simp [byts]), by simp [byts], fun h => by cases h⟩
theorem index_bytes (A : Option Addr) (b o n c k : Nat) (hA : A = some ⟨b, o, none⟩) (hk : k < n) (w : World) :
    (Instr.indexAt 48 (.slice A n c) (.int .i64 k)).run Tryd.prog w = .ok (.pointer (some ⟨b, o + k, none⟩)) w := by
  subst hA
  have h : (k : Int) < (n : Int) := by omega
  go_simp
/-- A slice below a bound reads as it did, where nothing below that bound has turned. -/
theorem Sl.under {w w' : World} {A : Option Addr} {c B : Nat} {xs : List Value} (h : Sl w A c xs) (hb : Below B w w') (hlt : 0 < xs.length → ∀ a, A = some a → a.block < B) : Sl w' A c xs := by
  refine ⟨?_, h.room, h.bare⟩
  rcases h.rd with hn | ⟨b, o, hA, hl, hc⟩
  · exact .inl hn
  · by_cases h0 : 0 < xs.length
    · subst hA
      refine .inr ⟨b, o, rfl, Nat.lt_of_lt_of_le hl hb.size, fun i hi => ?_⟩
      rw [hb.cell (p := ⟨b, o + i, none⟩) (hlt h0 ⟨b, o, none⟩ rfl)]; exact hc i hi
    · exact .inl (List.eq_nil_of_length_eq_zero (by omega))
theorem index_own (A : Option Addr) (g n c j : Nat) (hA : A = some ⟨g, 0, none⟩) (hj : j < n) (w : World) :
    (Instr.indexAt 48 (.slice A n c) (.int .i64 j)).run Tryd.prog w = .ok (.pointer (some ⟨g, j, none⟩)) w := by
  subst hA
  have h : (j : Int) < (n : Int) := by omega
  go_simp
theorem u8_next (x : UInt8) : ∃ y : UInt8, IntKind.u8.wrap ((x.toNat : Int) + 1) = (y.toNat : Int) := by
  refine ⟨UInt8.ofNat (x.toNat + 1), ?_⟩
  rw [UInt8.toNat_ofNat', IntKind.wrap_u8]; omega
theorem byts_set (ys : List UInt8) (j : Nat) (y : UInt8) : (byts ys).set j (.int .u8 (y.toNat : Int)) = byts (ys.set j y) := by
  unfold byts; rw [List.map_set]
theorem row_range {w : World} {g : Nat} {t : TypeId} {xs : List Value} (h : Row w g t xs) : w.rangeAt g 0 xs := by
  have := range_of_row (A := []) (C := []) (by rw [List.append_nil]; exact h : Row w g t ([] ++ (xs ++ [])))
  exact this
/-- Two new rows, each written whole. -/
theorem store2 {w w4 : World} {A B : Array Value} {t u : TypeId} {X Y : List Value} (h : ((((w.alloc (.cells A t)).alloc (.cells B u)).setRow w.heap.size X.toArray).setRow (w.heap.size + 1) Y.toArray) = w4) :
    Row w4 w.heap.size t X ∧ Row w4 (w.heap.size + 1) u Y ∧ Below w.heap.size w w4 := by
  subst h
  have h1 : (((w.alloc (.cells A t)).alloc (.cells B u)).setRow w.heap.size X.toArray).heap[w.heap.size + 1]? = some (.cells B u) := Eq.trans (setRow_other _ _ _ _ (by omega)) (heap_alloc2_new w _ _)
  have h0 : Row (((w.alloc (.cells A t)).alloc (.cells B u)).setRow w.heap.size X.toArray) w.heap.size t X := setRow_heap _ _ _ _ _ _ (heap_alloc2_old w _ _)
  refine ⟨?_, setRow_heap _ _ _ _ _ _ h1, below_setRow (below_setRow (((Below.refl _ w).alloc (Nat.le_refl _) _).alloc (by rw [World.size_alloc]; omega) _) (Nat.le_refl _) _) (by omega) _⟩
  unfold Row at h0 ⊢
  rw [setRow_other _ _ _ _ (by omega)]; exact h0
theorem second_new (w : World) (A B : Array Value) (t u : TypeId) (cs : Array Value) : (((w.alloc (.cells A t)).alloc (.cells B u)).setRow w.heap.size cs).heap[w.heap.size + 1]? = some (.cells B u) :=
  Eq.trans (setRow_other _ _ _ _ (by omega)) (heap_alloc2_new w _ _)
theorem Sl.hpos {w : World} {A : Option Addr} {c : Nat} {xs : List Value} (h : Sl w A c xs) (h0 : 0 < xs.length) : ∃ ad, A = some ad ∧ ∀ j v, xs[j]? = some v → w.cell? (ad.add j) = some v := by
  obtain ⟨b, o, rfl, _, _⟩ := h.rd.get h0
  exact ⟨_, rfl, h.rd.at_add⟩
theorem below_two (w : World) (X Y : Obj) : Below w.heap.size w ((w.alloc X).alloc Y) := ((Below.refl _ w).alloc (Nat.le_refl _) _).alloc (by rw [World.size_alloc]; omega) _
theorem three_later {w w3 : World} {X Y Z : Obj} (hb : Below (((w.alloc X).alloc Y).alloc Z).heap.size (((w.alloc X).alloc Y).alloc Z) w3) :
    w3.heap[w.heap.size]? = some X ∧ w3.heap[w.heap.size + 1]? = some Y ∧ Below w.heap.size w w3 ∧ w.heap.size + 3 ≤ w3.heap.size := by
  have s2 : ((w.alloc X).alloc Y).heap.size = w.heap.size + 2 := by rw [World.size_alloc, World.size_alloc]
  have s3 : (((w.alloc X).alloc Y).alloc Z).heap.size = w.heap.size + 3 := by rw [World.size_alloc, s2]
  rw [s3] at hb
  refine ⟨?_, ?_, ((below_two w X Y).alloc (by rw [s2]; omega) Z).trans (hb.mono (by omega)), by have := hb.size; omega⟩
  · rw [hb.block _ (by omega), heap_alloc_old _ _ (by omega), heap_alloc2_old]
  · rw [hb.block _ (by omega), heap_alloc_old _ _ (by omega), heap_alloc2_new]
/-- Bytes, bit by bit. -/
theorem byte_xor (a b : UInt8) : bits .xor .u8 (a.toNat : Int) (b.toNat : Int) = ((a ^^^ b).toNat : Int) := by
  show IntKind.u8.wrap ((BitVec.ofInt 8 (a.toNat : Int) ^^^ BitVec.ofInt 8 (b.toNat : Int)).toNat : Int) = _
  have e : ∀ c : UInt8, BitVec.ofInt 8 (c.toNat : Int) = c.toBitVec := fun c => by show BitVec.ofInt 8 (c.toBitVec.toNat : Int) = c.toBitVec; simp
  rw [e, e, ← UInt8.toBitVec_xor, IntKind.wrap_u8]
  have := (a ^^^ b).toNat_lt
  show ((a ^^^ b).toNat : Int) % 256 = _
  omega
theorem sl_lit (w : World) (l : List UInt8) (C : Array Value) (fr : Nat × Nat) (hC : C = (byts l).toArray) (n : Nat) (hn : l.length = n) : Sl (w.alloc (.cells C 5 fr)) (some ⟨w.heap.size, 0, none⟩) n (byts l) := by
  subst hC hn
  exact ⟨Rd.block (Go.heap_alloc_new w _), by simp [length_byts], fun h => by cases h⟩
theorem below_three (w : World) (X Y Z : Obj) : Below w.heap.size w (((w.alloc X).alloc Y).alloc Z) := (below_two w X Y).alloc (by rw [World.size_alloc, World.size_alloc]; omega) Z
/-- One step of a region that lays one new block. -/
theorem step_alloc {P : Program} {w : World} {ops : Array Oper} {o : Oper} {a : Act} {K : Act → World → Prop} {Q : Exit → Act → World → Prop} {E : Prop} (dst : Option Tmp) (hdst : o.dst = dst) (hgd : Region.wanted o (yielded ops a.tmps) = true)
    (v : Value) (ob : Obj) (hrun : (execOp a.eval o).run P w = .ok (.value v) (w.alloc ob))
    (h : ∀ w', w' = w.alloc ob → Below w.heap.size w w' → K (a.put dst v) w') : if Region.wanted o (yielded ops a.tmps) = true then Oper.wp P o a w K Q else E := by
  subst hdst
  rw [if_pos hgd]
  unfold Oper.wp
  rw [hrun]
  exact h _ rfl ((Below.refl _ w).alloc (Nat.le_refl _) ob)
theorem sl_lt {w : World} {b o c : Nat} {xs : List Value} (h : Sl w (some ⟨b, o, none⟩) c xs) (hx : 0 < xs.length) : b < w.heap.size := by
  obtain ⟨b', o', he, hlt, _⟩ := h.rd.get hx
  cases he
  exact hlt
theorem own_set {w : World} {base t g n cap : Nat} {xs : List Value} (h : w.ownsRow base t 1 (.slice (some ⟨g, 0, none⟩) n cap) n xs) (i : Nat) (v : Value) :
    (w.setCell ⟨g, i, none⟩ v).ownsRow base t 1 (.slice (some ⟨g, 0, none⟩) n cap) n (xs.set i v) := by
  refine ⟨by rw [List.length_set]; exact h.1, ?_⟩
  rcases h.2 with ⟨h1, _⟩ | ⟨g', cap', cur, hv, hbg, hg, hnc, hcm, hcs, htake⟩
  · cases h1
  injection hv with e1 e2 e3
  injection e1 with e1
  injection e1 with e1
  subst e1 e3
  refine .inr ⟨g, cap, cur.setIfInBounds i v, rfl, hbg, heap_setCell_same w g i cur t v hg, hnc, hcm, by rw [Array.size_setIfInBounds]; exact hcs, ?_⟩
  rw [Array.toList_setIfInBounds, List.take_set, htake]
/-- 'append' onto a slice of the call's own that has an array: it has one behind it, too. -/
theorem wpList_append_arr {P : Program} {w : World} {ops : Array Oper} {rest : List Oper} {o : Oper} {a : Act} {Q : Exit → Act → World → Prop} (hgd : o.guard = none) (s x : Operand) (t : TypeId)
    (ho : o.op = .call { callee := .builtin .append, args := #[s, x], argTypes := #[t, t] })
    (base : Nat) (e : TypeId) (i : TypeInfo) (z : Value) (bytes : Nat) (ht : P.underlying t = some (.slice e)) (hi : P.info? e = some i) (hz : i.zero = some z)
    (hsize : i.size = 1) (hby : i.bytes = bytes) (hzs : z.cells.size = 1)
    (g0 c0 n : Nat) (xs : List Value) (hs : a.eval s = .slice (some ⟨g0, 0, none⟩) n c0) (hown : w.ownsRow base e 1 (.slice (some ⟨g0, 0, none⟩) n c0) n xs)
    (A : Option Addr) (m c : Nat) (news : List Value) (hx : a.eval x = .slice A m c) (hm : m = news.length) (hsl : Sl w A c news) (h1 : ∀ u ∈ news, u.oneCell' = true)
    (h63 : n + m ≤ maxLen) (hbytes : (n + m) * bytes ≤ 140737488355328) (hbase : base ≤ w.heap.size)
    (h : ∀ g' c' w', w'.ownsRow base e 1 (.slice (some ⟨g', 0, none⟩) (n + m) c') (n + m) (xs ++ news) → w.grownBy w' (some g0) → wpList P ops Q rest (a.put o.dst (.slice (some ⟨g', 0, none⟩) (n + m) c')) w') : wpList P ops Q (o :: rest) a w := by
  subst hm
  cases A with
  | none =>
    have hc := hsl.bare rfl
    have hl := hsl.room
    obtain rfl : news = [] := List.eq_nil_of_length_eq_zero (by omega)
    subst hc
    refine wpList_append_own_none hgd s x t ho base e i 1 ht hi _ n xs hs hown hx ?_
    exact h g0 c0 w (by simpa using hown) (World.grownBy.refl w _)
  | some ad =>
    refine wpList_append_own w hgd s x t ho base e i z 1 bytes ht hi hz hsize hby hzs (by omega) _ n xs hs hown ad news.length c news hx (by omega) hsl.rd.at_add h1 h63 hbytes hbase fun v' w' h2 h3 h4 => ?_
    rcases h2.2 with ⟨h5, _⟩ | ⟨g', cap', cur, hv, hr⟩
    · exact absurd (h4.1 h5).1 (fun h => by cases h)
    · subst hv
      exact h g' cap' w' h2 h3
theorem bit_byte (y : UInt8) (k : Nat) : bits .xor .u8 (y.toNat : Int) (2 ^ k % 256) = ((y ^^^ UInt8.ofNat (2 ^ k)).toNat : Int) := by
  rw [← byte_xor, UInt8.toNat_ofNat']
  congr 1
theorem byts_zeros (n : Nat) : byts (List.replicate n 0) = List.replicate n (.int .u8 0) := by
  unfold byts
  rw [List.map_replicate]; rfl

/-- A row written whole where it stands. -/
theorem row_set {w w4 : World} {g t : Nat} {old xs : List Value} (h0 : Row w g t old) (h : w.setRow g xs.toArray = w4) : Row w4 g t xs ∧ w.grownBy w4 (some g) := by
  subst h
  exact ⟨h0.setRow _, grown_setRow _ _ _⟩
/-- Two new rows, the second one written whole. -/
theorem row_new_set2 {w w4 : World} {old1 : List Value} {old2 : Array Value} {t u : TypeId} {xs : List Value} (h : ((w.alloc (.cells old1.toArray t)).alloc (.cells old2 u)).setRow (w.heap.size + 1) xs.toArray = w4) :
    Row w4 w.heap.size t old1 ∧ Row w4 (w.heap.size + 1) u xs ∧ Below w.heap.size w w4 := by
  subst h
  have h0 : Row ((w.alloc (.cells old1.toArray t)).alloc (.cells old2 u)) w.heap.size t old1 := heap_alloc2_old w _ _
  refine ⟨?_, setRow_heap _ _ _ _ _ _ (heap_alloc2_new w _ _), below_setRow (((Below.refl _ w).alloc (Nat.le_refl _) _).alloc (by rw [World.size_alloc]; omega) _) (by omega) _⟩
  exact h0.grown (grown_setRow _ _ _) (by omega)
/-- A row of the call's own as a slice. -/
theorem own_of_row {w : World} {g t base : Nat} {xs : List Value} (h : Row w g t xs) (hb : base ≤ g) (hm : xs.length ≤ maxLen) : w.ownsRow base t 1 (.slice (some ⟨g, 0, none⟩) xs.length xs.length) xs.length xs :=
  ⟨by rw [Nat.mul_one], .inr ⟨g, xs.length, xs.toArray, rfl, hb, h, Nat.le_refl _, hm, by rw [List.size_toArray, Nat.mul_one], by rw [Nat.mul_one]; exact List.take_length⟩⟩
/-- Results: an array that lies in memory, and a slot. -/
theorem results_row_tmp {P : Program} {fn : Func} {p u : Tmp} {ty : TypeId} (h : fn.results = #[.cell p ty, .tmp u]) (tmps : Array Value) (w : World) (g : Nat) (t : TypeId) (cs : Array Value) (fr : Nat × Nat) (d : TypeDesc)
    (hp : tmps.getD p undef = .pointer (some ⟨g, 0, none⟩)) (hg : w.heap[g]? = some (.cells cs t fr))
    (hu : P.underlying ty = some d) (hd : (match d with | .struct _ | .array _ _ => true | _ => false) = true) (hi : (P.info? ty).map (·.size) = some cs.size) (v : Value) (hv : tmps.getD u undef = v) :
    (results fn tmps).run P w = .ok (.tuple #[.agg cs, v]) w := by
  rw [results_cell_tmp h, hp, hv]
  simp [asAddr, Result.andThen, run_loadVar_row w g t ty cs fr d hg hu hd hi]
theorem Sl.range {w : World} {b o c : Nat} {xs : List Value} (h : Sl w (some ⟨b, o, none⟩) c xs) : w.rangeAt b o xs := by
  intro j v hj
  have hl : j < xs.length := (List.getElem?_eq_some_iff.1 hj).1
  obtain ⟨b', o', he, _, hc⟩ := h.rd.get hl
  cases he
  rw [hc, hj]
/-- A slice as an array that it is long enough for. -/
theorem run_arrayAt {P : Program} (arr e : TypeId) (n : Nat) (hu : P.underlying arr = some (.array n e)) (A : Option Addr) (m c : Nat) (h : n ≤ m) (w : World) :
    (Instr.arrayAt arr (.slice A m c)).run P w = .ok (.pointer A) w := by
  unfold Instr.arrayAt
  simp only [Sem.run_bind, run_underlying hu, Result.andThen_ok]
  rw [if_neg (by omega)]
  rfl
section
variable {P : Program} {w : World} {ops : Array Oper} {o : Oper} {a : Act} {K : Act → World → Prop} {Q : Exit → Act → World → Prop} {E : Prop}
theorem put_none (l : List Value) (d : List Deferred) (v : Value) : ({ tmps := l.toArray, defers := d } : Act).put none v = { tmps := l.toArray, defers := d } := rfl
theorem step_load_mid (dst : Option Tmp) (hdst : o.dst = dst) (hgd : Region.wanted o (yielded ops a.tmps) = true) (ty : TypeId) (x : Operand) (ho : o.op = .load ty x)
    (b off : Nat) (hx : a.eval x = .pointer (some ⟨b, off, none⟩)) (cs : List Value) (d : TypeDesc) (hc : w.rangeAt b off cs)
    (hu : P.underlying ty = some d) (hd : d.isRow = true) (hi : (P.info? ty).map (·.size) = some cs.length)
    (h : K (a.put dst (.agg cs.toArray)) w) : if Region.wanted o (yielded ops a.tmps) = true then Oper.wp P o a w K Q else E := by
  subst hdst; rw [if_pos hgd]; exact wp_load_mid ty x ho b off hx cs d hc hu hd hi h
theorem run_load_op (ty : TypeId) (x : Operand) (ho : o.op = .load ty x)
    (b off : Nat) (hx : a.eval x = .pointer (some ⟨b, off, none⟩)) (cs : List Value) (d : TypeDesc) (hc : w.rangeAt b off cs)
    (hu : P.underlying ty = some d) (hd : d.isRow = true) (hi : (P.info? ty).map (·.size) = some cs.length) : (execOp a.eval o).run P w = .ok (.value (.agg cs.toArray)) w := by
  unfold execOp
  simp only [ho, hx, Instr.loadAt, Instr.sureAddr, Sem.run_bind, Sem.run_pure, Result.andThen_ok, run_loadVar_mid w b off ty cs d hc hu hd hi]
theorem run_store_row (ty : TypeId) (g off : Nat) (t : TypeId) (cur cs : List Value) (hr : Row w g t cur) (hfit : off + cs.length ≤ cur.length) (hi : (P.info? ty).map (·.size) = some cs.length) (h1 : ∀ v ∈ cs, v.oneCell' = true) :
    (Instr.storeAt ty (.pointer (some ⟨g, off, none⟩)) (.agg cs.toArray)).run P w = .ok () (w.setRow g (splice cur off cs).toArray) := by
  have hst := run_storeCells_at P g off t cs 0 cur.toArray w hr (by simpa using hfit) h1
  cases hq : P.info? ty with
  | none => simp [hq] at hi
  | some i =>
    have hs : i.size = cs.length := by simpa [hq] using hi
    simp only [Nat.add_zero] at hst
    simp [Instr.storeAt, Instr.sureAddr, storeVar, sizeOf, typeInfo, hq, Value.cells, hs, hst, splice]
theorem step_store_row (dst : Option Tmp) (hdst : o.dst = dst) (hgd : Region.wanted o (yielded ops a.tmps) = true) (ty : TypeId) (x y : Operand) (ho : o.op = .store ty x y)
    (g off : Nat) (t : TypeId) (cur cs : List Value) (hx : a.eval x = .pointer (some ⟨g, off, none⟩)) (hy : a.eval y = .agg cs.toArray) (hr : Row w g t cur) (hfit : off + cs.length ≤ cur.length) (hi : (P.info? ty).map (·.size) = some cs.length) (h1 : ∀ v ∈ cs, v.oneCell' = true)
    (h : ∀ w', Row w' g t (splice cur off cs) → w.grownBy w' (some g) → K (a.put dst undef) w') : if Region.wanted o (yielded ops a.tmps) = true then Oper.wp P o a w K Q else E := by
  subst hdst
  rw [if_pos hgd]
  unfold Oper.wp execOp
  simp only [ho, hx, hy, run_store_row ty g off t cur cs hr hfit hi h1, Sem.run_bind, Sem.run_pure, Result.andThen_ok]
  exact h _ (hr.setRow _) (grown_setRow _ _ _)
theorem step_copy_row (dst : Option Tmp) (hdst : o.dst = dst) (hgd : Region.wanted o (yielded ops a.tmps) = true) (d s : Operand) (dT sT : TypeId)
    (ho : o.op = .call { callee := .builtin .copy, args := #[d, s], argTypes := #[dT, sT] }) (elem : TypeId) (hu : P.underlying dT = some (.slice elem)) (hsz : (P.info? elem).map (·.size) = some 1)
    (g off dLen dCap : Nat) (ad : Addr) (sLen sCap : Nat) (hd : a.eval d = .slice (some ⟨g, off, none⟩) dLen dCap) (hs : a.eval s = .slice (some ad) sLen sCap)
    (t : TypeId) (cur : List Value) (hg : Row w g t cur) (cs : List Value) (n : Nat) (hl : cs.length = n) (hn : n = Nat.min sLen dLen)
    (hsrc : ∀ j v, cs[j]? = some v → w.cell? (ad.add j) = some v) (hfit : off + cs.length ≤ cur.length) (h1 : ∀ v ∈ cs, v.oneCell' = true)
    (h : ∀ w', Row w' g t (splice cur off cs) → w.grownBy w' (some g) → K (a.put dst (goInt n)) w') : if Region.wanted o (yielded ops a.tmps) = true then Oper.wp P o a w K Q else E := by
  subst hl hdst
  rw [if_pos hgd]
  have hrun := run_copy_row (P := P) w dT sT o.type elem g off dLen dCap ad sLen sCap cur.toArray t cs hu hsz hg hn hsrc (by simpa using hfit) h1
  unfold Oper.wp
  simp [execOp, ho, resolve, invoke, builtin, hd, hs, hrun, Result.andThen]
  have hR := hg.setRow (splice cur off cs)
  have hG := grown_setRow w g (splice cur off cs).toArray
  simp only [splice] at hR hG h
  exact h _ hR hG
/-- The like of 'step_append_sl', its slot a parameter. -/
theorem step_append_at (dst : Option Tmp) (hdst : o.dst = dst) (hgd : Region.wanted o (yielded ops a.tmps) = true) (s x : Operand) (t : TypeId)
    (ho : o.op = .call { callee := .builtin .append, args := #[s, x], argTypes := #[t, t] })
    (base : Nat) (e : TypeId) (i : TypeInfo) (z : Value) (bytes : Nat) (ht : P.underlying t = some (.slice e)) (hi : P.info? e = some i) (hz : i.zero = some z)
    (hsize : i.size = 1) (hby : i.bytes = bytes) (hzs : z.cells.size = 1)
    (v : Value) (n : Nat) (xs : List Value) (hs : a.eval s = v) (hown : w.ownsRow base e 1 v n xs)
    (A : Option Addr) (m c : Nat) (news : List Value) (hx : a.eval x = .slice A m c) (hm : m = news.length) (hsl : Sl w A c news) (h1 : ∀ u ∈ news, u.oneCell' = true)
    (h63 : n + m ≤ maxLen) (hbytes : (n + m) * bytes ≤ 140737488355328) (W0 : World) (hb0 : base = W0.heap.size) (hbel : Below W0.heap.size W0 w)
    (h : ∀ v' w', w'.ownsRow base e 1 v' (n + m) (xs ++ news) → w.grownBy w' v.ownBlock → Below W0.heap.size W0 w' → K (a.put dst v') w') :
    if Region.wanted o (yielded ops a.tmps) = true then Oper.wp P o a w K Q else E := by
  subst hdst
  exact step_append_sl hgd s x t ho base e i z bytes ht hi hz hsize hby hzs v n xs hs hown A m c news hx hm hsl h1 h63 hbytes W0 hb0 hbel h
theorem run_build_op (ty : TypeId) (ho : o.op = .build ty #[]) (v : Value) (hv : (Instr.build ty #[]).run P w = .ok v w) : (execOp a.eval o).run P w = .ok (.value v) w := by
  unfold execOp
  simp only [ho, Sem.run_bind, Sem.run_pure, Result.andThen_ok, List.map_toArray, List.map_nil, hv]
end
section
variable {P : Program} {md : Region.Mode} {ops : Array Oper} {Q : Exit → Act → World → Prop} {S : World → Prop} {fuel : Nat} {listed : Array Bool} {a : Act} {w : World}
/-- An operation of a region whose guard is shut comes to nothing. -/
theorem rskip (i : Nat) (o : Oper) (d : Option Tmp) (hi : ops[i]? = some o) (hd : o.dst = d) (hs : Region.noSelect ops = true) (hf : Region.free md ops listed i = true) (hr : (Region.ready md ops listed).contains i = true)
    (hQ : ∀ c a w, Q (.panic c) (a.put d undef) w → Q (.panic c) a w) (hw : Region.wanted o (yielded ops a.tmps) = false) (hS : S w)
    (h : wpAnyH P md ops Q S fuel (listed.setIfInBounds i true) (a.put d undef) w) : wpAnyH P md ops Q S (fuel + 1) listed a w := by
  subst hd
  exact wpAnyH_take hi hs hf hr hQ (Or.inr ⟨hw, rfl⟩) hS h
end
theorem own_base {w : World} {b b' t n : Nat} {v : Value} {xs : List Value} (h : w.ownsRow b t 1 v n xs) (hb : b' ≤ b) : w.ownsRow b' t 1 v n xs := by
  obtain ⟨hl, h | ⟨g, cap, cur, rfl, hg, h⟩⟩ := h
  · exact ⟨hl, .inl h⟩
  · exact ⟨hl, .inr ⟨g, cap, cur, rfl, Nat.le_trans hb hg, h⟩⟩
end Go.Proofs.YtbngnmhbnhpbeaaDoor
