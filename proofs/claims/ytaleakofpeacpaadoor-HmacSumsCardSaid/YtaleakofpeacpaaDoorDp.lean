/- LAYER 3: what walks over digests share: parts, slices cut out of slices, rows written whole. -/
import Derived.Test.YtaleakofpeacpaaDoorDo
import Derived.Test.YtaleakofpeacpaaDoorZ
namespace Go.Proofs.YtaleakofpeacpaaDoor
open Go Go.RowKit

theorem Rd.block {w : World} {g : Nat} {t : TypeId} {fr : Nat × Nat} {xs : List Value} (h : w.heap[g]? = some (.cells xs.toArray t fr)) : Rd w (some ⟨g, 0, none⟩) xs :=
  .inr ⟨g, 0, rfl, (Array.getElem?_eq_some_iff.1 h).1, fun i _ => by rw [Nat.zero_add, cell_of_row w g i _ t fr h]; simp⟩
theorem Sl.take {w : World} {A : Option Addr} {c k : Nat} {xs : List Value} (h : Sl w A c xs) : Sl w A c (xs.take k) := by
  have e : xs = xs.take k ++ xs.drop k := (List.take_append_drop k xs).symm
  rw [e] at h
  exact h.pre
/-- A slice's part 'b[i:j]': nil let in. -/
theorem cut_run (A : Option Addr) (c : Nat) (l : List UInt8) (w0 : World) (h : Sl w0 A c (byts l)) (i j : Nat) (hi : i ≤ j) (hj : j ≤ l.length) :
    ∃ A' : Option Addr, (∀ w, (Instr.sliceAt 22 (.slice A l.length c) (some (.int .i64 i)) (some (.int .i64 j)) none).run Tryd.prog w = .ok (.slice A' (j - i) (c - i)) w) ∧
      (∀ w, j = l.length → (Instr.sliceAt 22 (.slice A l.length c) (some (.int .i64 i)) none none).run Tryd.prog w = .ok (.slice A' (j - i) (c - i)) w) ∧
      Sl w0 A' (c - i) (byts ((l.drop i).take (j - i))) := by
  have hr := h.room
  rw [length_byts] at hr
  cases A with
  | none =>
    have hc := h.bare rfl
    subst hc
    have hl : l.length = 0 := by omega
    obtain rfl : l = [] := List.eq_nil_of_length_eq_zero hl
    have ej : j = 0 := by simpa using hj
    have ei : i = 0 := by omega
    subst ej ei
    clear hr hl hi hj
    refine ⟨none, fun w => ?_, fun w hx => ?_, ?_⟩
    · clear h; go_simp
    · clear h hx; go_simp
    · exact h
  | some a =>
    refine ⟨some (if c = i then a else a.add i), fun w => ?_, fun w he => ?_, ?_⟩
    · have h1 : (i : Int) ≤ (j : Int) := by omega
      have h2 : (j : Int) ≤ (c : Int) := by omega
      clear h hi hj hr
      go_simp
      split <;> rfl
    · have h3 : (i : Int) ≤ (l.length : Int) := by omega
      have h2 : (l.length : Int) ≤ (c : Int) := by omega
      clear h hi hj hr
      subst he
      generalize l.length = n at *
      go_simp
      split <;> rfl
    · have eb : byts ((l.drop i).take (j - i)) = ((byts l).drop i).take (j - i) := by unfold byts; rw [List.map_take, List.map_drop]
      rw [eb]
      by_cases h0 : 0 < l.length
      · obtain ⟨b, o, he, _⟩ := h.rd.get (i := 0) (by rw [length_byts]; exact h0)
        cases he
        rw [Addr.add_lit]
        exact (h.from (by rw [length_byts]; omega) rfl).take
      · obtain rfl : l = [] := List.eq_nil_of_length_eq_zero (by omega)
        exact ⟨.inl (by simp [byts]), by simp [byts], fun h => by cases h⟩
theorem write_at (g n : Nat) (l b : List UInt8) (A : Option Addr) (c : Nat) (w : World) (hT : Cube w) (hd : Dgt w g l) (hs : Sl w A c (byts b)) (hA : 0 < b.length → ∀ a, A = some a → a.block ≠ g) (hn : n = b.length) (hm : l.length + b.length ≤ 4611686018427387904) :
    Calls Tryd.prog 14 #[.pointer (some ⟨g, 0, none⟩), .slice A n c] w fun e w' => e = .returned (.tuple #[]) ∧ Dgt w' g (l ++ b) ∧ w.grownBy w' (some g) := by
  subst hn
  exact write_any g l b A c w hT hd hs hA hm
theorem infoSlice : (Tryd.prog.info? 22).map (fun i => (i.zero, i.size, i.bytes)) = some (some (.slice none 0 0), 1, 24) := by kernel_rfl
/-- A part alone, in a list of its own. -/
theorem parts_one {w : World} {A : Option Addr} {c : Nat} {l : List UInt8} (h : Sl w A c (byts l)) : Parts (w.alloc (.cells #[.slice A l.length c] 22)) (some ⟨w.heap.size, 0, none⟩) 1 [(A, c, l)] := by
  have r := Row.new w 22 [.slice A l.length c]
  refine ⟨⟨Rd.row (ys := []) (by rw [List.append_nil]; exact r), by simp, fun h => by cases h⟩, fun p hp => ?_⟩
  obtain rfl : p = (A, c, l) := by simpa using hp
  exact h.later (Nat.le_refl _) ((Below.refl _ w).alloc (Nat.le_refl _) _)
theorem flat_one (A : Option Addr) (c : Nat) (l : List UInt8) : flat [(A, c, l)] = l := by unfold flat; simp
theorem flat_snoc (ps : List Part) (A : Option Addr) (c : Nat) (l : List UInt8) : flat (ps ++ [(A, c, l)]) = flat ps ++ l := by unfold flat; simp
theorem parts_all (ps : List Part) : ∀ v ∈ ps.map partV, v.oneCell' = true := by
  intro v hv
  obtain ⟨_, _, rfl⟩ := List.mem_map.1 hv
  rfl
theorem take_more (l : List UInt8) (i j : Nat) (h : i ≤ j) : l.take i ++ (l.drop i).take (j - i) = l.take j := by
  rw [← List.take_add, show i + (j - i) = j by omega]
theorem index_bytes (A : Option Addr) (b o n c k : Nat) (hA : A = some ⟨b, o, none⟩) (hk : k < n) (w : World) :
    (Instr.indexAt 22 (.slice A n c) (.int .i64 k)).run Tryd.prog w = .ok (.pointer (some ⟨b, o + k, none⟩)) w := by
  subst hA
  have h : (k : Int) < (n : Int) := by omega
  go_simp
theorem index_parts (A : Option Addr) (b o n c k : Nat) (hA : A = some ⟨b, o, none⟩) (hk : k < n) (w : World) :
    (Instr.indexAt 23 (.slice A n c) (.int .i64 k)).run Tryd.prog w = .ok (.pointer (some ⟨b, o + k, none⟩)) w := by
  subst hA
  have h : (k : Int) < (n : Int) := by omega
  go_simp
/-- A slice below a bound reads as it did, where nothing below that bound has turned. -/
theorem Sl.under {w w' : World} {A : Option Addr} {c B : Nat} {xs : List Value} (h : Sl w A c xs) (hb : Below B w w') (hlt : 0 < xs.length → ∀ a, A = some a → a.block < B) : Sl w' A c xs := by
  refine ⟨?_, h.room, h.bare⟩
  rcases h.rd with hn | ⟨b, o, hA, hl, hc⟩
  · exact .inl hn
  · by_cases h0 : 0 < xs.length
    · subst hA
      refine .inr ⟨b, o, rfl, Nat.lt_of_lt_of_le hl hb.size, fun i hi => ?_⟩
      rw [hb.cell (p := ⟨b, o + i, none⟩) (hlt h0 ⟨b, o, none⟩ rfl)]; exact hc i hi
    · exact .inl (List.eq_nil_of_length_eq_zero (by omega))
theorem sl_three (w : World) (C : Array Value) (hC : C = (byts [1, 2, 3]).toArray) : Sl (w.alloc (.cells C 5)) (some ⟨w.heap.size, 0, none⟩) 3 (byts [1, 2, 3]) := by
  subst hC
  exact ⟨Rd.row (ys := []) (by rw [List.append_nil]; exact Row.new w 5 (byts [1, 2, 3])), by simp [length_byts], fun h => by cases h⟩
theorem index_own (A : Option Addr) (g n c j : Nat) (hA : A = some ⟨g, 0, none⟩) (hj : j < n) (w : World) :
    (Instr.indexAt 22 (.slice A n c) (.int .i64 j)).run Tryd.prog w = .ok (.pointer (some ⟨g, j, none⟩)) w := by
  subst hA
  have h : (j : Int) < (n : Int) := by omega
  go_simp
theorem u8_next (x : UInt8) : ∃ y : UInt8, IntKind.u8.wrap ((x.toNat : Int) + 1) = (y.toNat : Int) := by
  refine ⟨UInt8.ofNat (x.toNat + 1), ?_⟩
  rw [UInt8.toNat_ofNat', IntKind.wrap_u8]; omega
theorem byts_set (ys : List UInt8) (j : Nat) (y : UInt8) : (byts ys).set j (.int .u8 (y.toNat : Int)) = byts (ys.set j y) := by
  unfold byts; rw [List.map_set]
/-- Two new rows, each written whole. -/
theorem store2 {w w4 : World} {A B : Array Value} {t u : TypeId} {X Y : List Value} (h : ((((w.alloc (.cells A t)).alloc (.cells B u)).setRow w.heap.size X.toArray).setRow (w.heap.size + 1) Y.toArray) = w4) :
    Row w4 w.heap.size t X ∧ Row w4 (w.heap.size + 1) u Y ∧ Below w.heap.size w w4 := by
  subst h
  have h1 : (((w.alloc (.cells A t)).alloc (.cells B u)).setRow w.heap.size X.toArray).heap[w.heap.size + 1]? = some (.cells B u) := Eq.trans (setRow_other _ _ _ _ (by omega)) (heap_alloc2_new w _ _)
  have h0 : Row (((w.alloc (.cells A t)).alloc (.cells B u)).setRow w.heap.size X.toArray) w.heap.size t X := setRow_heap _ _ _ _ _ _ (heap_alloc2_old w _ _)
  refine ⟨?_, setRow_heap _ _ _ _ _ _ h1, below_setRow (below_setRow (((Below.refl _ w).alloc (Nat.le_refl _) _).alloc (by rw [World.size_alloc]; omega) _) (Nat.le_refl _) _) (by omega) _⟩
  unfold Row at h0 ⊢
  rw [setRow_other _ _ _ _ (by omega)]; exact h0
theorem second_new (w : World) (A B : Array Value) (t u : TypeId) (cs : Array Value) : (((w.alloc (.cells A t)).alloc (.cells B u)).setRow w.heap.size cs).heap[w.heap.size + 1]? = some (.cells B u) :=
  Eq.trans (setRow_other _ _ _ _ (by omega)) (heap_alloc2_new w _ _)
theorem row_range {w : World} {g : Nat} {t : TypeId} {xs : List Value} (h : Row w g t xs) : w.rangeAt g 0 xs := by
  have := range_of_row (A := []) (C := []) (by rw [List.append_nil]; exact h : Row w g t ([] ++ (xs ++ [])))
  exact this
end Go.Proofs.YtaleakofpeacpaaDoor
