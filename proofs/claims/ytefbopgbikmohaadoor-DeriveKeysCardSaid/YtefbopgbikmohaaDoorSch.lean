/- LAYER 2: the schedule: package block's. -/
import Derived.Test.YtefbopgbikmohaaDoorB1
import Derived.Test.YtefbopgbikmohaaDoorMw
import Derived.Laws.Rows
import Derived.Laws.Tables
import Derived.Deep.QuietTactic
import Derived.BigQuiet
namespace Go.Proofs.YtefbopgbikmohaaDoor
open Go.RowKit

def words (xs : List (BitVec 32)) : List Value := xs.map fun x => Value.int .u32 (u x)
theorem length_words (xs : List (BitVec 32)) : (words xs).length = xs.length := by unfold words; simp
theorem words_append (xs ys : List (BitVec 32)) : words (xs ++ ys) = words xs ++ words ys := by unfold words; simp
theorem get_words (xs : List (BitVec 32)) (i : Nat) (h : i < xs.length) : (words xs)[i]? = some (.int .u32 (u (xs.getD i 0#32))) := by
  unfold words; simp [h]
theorem words_one (xs : List (BitVec 32)) : ∀ v ∈ words xs, v.oneCell' = true := by
  intro v hv
  obtain ⟨_, _, rfl⟩ := List.mem_map.1 hv
  rfl
/-- The first four bytes as a word. -/
def getW (l : List UInt8) : BitVec 32 := BitVec.ofNat 32 (getV l).toNat
theorem u_getW (l : List UInt8) : u (getW l) = getV l := by
  have b0 := byte_bd (l.getD 0 0)
  have b1 := byte_bd (l.getD 1 0)
  have b2 := byte_bd (l.getD 2 0)
  have b3 := byte_bd (l.getD 3 0)
  unfold u getW
  rw [BitVec.toNat_ofNat]
  have h := getV_eq l
  omega
/-- The next word of a schedule. -/
def nextW (l : List UInt8) (xs : List (BitVec 32)) : BitVec 32 :=
  if xs.length < 16 then getW (l.drop (4 * xs.length))
  else small 1 (xs.getD (xs.length - 2) 0#32) + xs.getD (xs.length - 7) 0#32 + small 0 (xs.getD (xs.length - 15) 0#32) + xs.getD (xs.length - 16) 0#32
/-- The first k words of a block's schedule. -/
def sched (l : List UInt8) : Nat → List (BitVec 32)
  | 0 => []
  | k + 1 => sched l k ++ [nextW l (sched l k)]
theorem length_sched (l : List UInt8) (k : Nat) : (sched l k).length = k := by
  induction k with
  | zero => rfl
  | succ k ih => simp [sched, ih]
theorem sched_get (l : List UInt8) {i k : Nat} (h : i < k) : (sched l k).getD i 0#32 = nextW l (sched l i) := by
  induction k with
  | zero => omega
  | succ k ih =>
    have hl := length_sched l k
    by_cases hk : i < k
    · rw [sched, List.getD_eq_getElem?_getD, List.getElem?_append_left (by omega), ← List.getD_eq_getElem?_getD]; exact ih hk
    · obtain rfl : i = k := by omega
      rw [sched, List.getD_eq_getElem?_getD, List.getElem?_append_right (by omega), hl]; simp
theorem next_low (l : List UInt8) (k : Nat) (h : k < 16) : nextW l (sched l k) = getW (l.drop (4 * k)) := by
  unfold nextW; rw [length_sched, if_pos h]
theorem next_high (l : List UInt8) (k : Nat) (h : 16 ≤ k) : nextW l (sched l k) =
    small 1 ((sched l k).getD (k - 2) 0#32) + (sched l k).getD (k - 7) 0#32 + small 0 ((sched l k).getD (k - 15) 0#32) + (sched l k).getD (k - 16) 0#32 := by
  unfold nextW; rw [length_sched, if_neg (by omega)]
/-- A table that is being filled: k words, and zeros behind them. -/
def part (xs : List (BitVec 32)) (n : Nat) : List Value := words xs ++ List.replicate (n - xs.length) (.int .u32 0)
theorem part_get (xs : List (BitVec 32)) (n i : Nat) (h : i < xs.length) : (part xs n)[i]? = some (.int .u32 (u (xs.getD i 0#32))) := by
  unfold part
  rw [List.getElem?_append_left (by rw [length_words]; exact h), get_words _ _ h]
theorem part_set (xs : List (BitVec 32)) (n : Nat) (x : BitVec 32) (h : xs.length < n) : (part xs n).set xs.length (.int .u32 (u x)) = part (xs ++ [x]) n := by
  unfold part
  rw [List.set_append_right _ _ (by rw [length_words]; exact Nat.le_refl _), length_words, Nat.sub_self, words_append]
  obtain ⟨r, hr⟩ : ∃ r, n - xs.length = r + 1 := ⟨n - xs.length - 1, by omega⟩
  rw [hr, List.replicate_succ, List.set_cons_zero, List.length_append, List.append_assoc]
  have : n - (xs.length + [x].length) = r := by simp; omega
  rw [this]; rfl
theorem part_zero (xs : List (BitVec 32)) (n i : Nat) (h : xs.length = i) (hi : i < n) : (part xs n)[i]? = some (.int .u32 0) := by
  unfold part
  rw [List.getElem?_append_right (by rw [length_words]; omega), length_words, h, Nat.sub_self]
  rw [List.getElem?_replicate, if_pos (by omega)]
theorem part_all (xs : List (BitVec 32)) : part xs xs.length = words xs := by unfold part; simp
theorem length_part (xs : List (BitVec 32)) (n : Nat) (h : xs.length ≤ n) : (part xs n).length = n := by unfold part; simp [length_words]; omega

theorem cell_far {w : World} {g i j : Nat} (v : Value) (h : i ≠ j) : (w.setCell ⟨g, j, none⟩ v).cell? ⟨g, i, none⟩ = w.cell? ⟨g, i, none⟩ := by
  apply World.cell?_setCell_other
  intro e
  injection e with _ e _
  exact h e.symm
theorem size64 : (Tryd.prog.info? 68).map (·.size) = some 64 := by kernel_rfl
/-- Three blocks made one behind the other. -/
theorem rows3 {w w1 : World} {A B C : List Value} {tA tB tC : TypeId} (h : ((w.alloc (.cells A.toArray tA)).alloc (.cells B.toArray tB)).alloc (.cells C.toArray tC) = w1) :
    Row w1 w.heap.size tA A ∧ Row w1 (w.heap.size + 1) tB B ∧ Row w1 (w.heap.size + 1 + 1) tC C ∧ Below w.heap.size w w1 ∧ w1.heap.size = w.heap.size + 3 := by
  subst h
  have s1 : (w.alloc (.cells A.toArray tA)).heap.size = w.heap.size + 1 := World.size_alloc _ _
  have s2 : ((w.alloc (.cells A.toArray tA)).alloc (.cells B.toArray tB)).heap.size = w.heap.size + 2 := by rw [World.size_alloc, s1]
  have b1 : Below (w.alloc (.cells A.toArray tA)).heap.size (w.alloc (.cells A.toArray tA)) (((w.alloc (.cells A.toArray tA)).alloc (.cells B.toArray tB)).alloc (.cells C.toArray tC)) :=
    (((Below.refl _ _).alloc (Nat.le_refl _) _).alloc (by rw [World.size_alloc]; omega) _)
  have b2 : Below ((w.alloc (.cells A.toArray tA)).alloc (.cells B.toArray tB)).heap.size ((w.alloc (.cells A.toArray tA)).alloc (.cells B.toArray tB)) (((w.alloc (.cells A.toArray tA)).alloc (.cells B.toArray tB)).alloc (.cells C.toArray tC)) :=
    (Below.refl _ _).alloc (Nat.le_refl _) _
  refine ⟨(Row.new w tA A).later b1 (by rw [s1]; omega), ?_, ?_, ?_, ?_⟩
  · have := (Row.new (w.alloc (.cells A.toArray tA)) tB B).later b2 (by rw [s2, s1]; omega)
    rw [s1] at this; exact this
  · have := Row.new ((w.alloc (.cells A.toArray tA)).alloc (.cells B.toArray tB)) tC C
    rw [s2] at this; exact this
  · exact ((Below.refl _ _).alloc (Nat.le_refl _) _).trans (b1.mono (by rw [s1]; omega))
  · rw [World.size_alloc, s2]
theorem size64b : (Tryd.prog.info? 49).map (·.size) = some 64 := by kernel_rfl
set_option maxHeartbeats 2000000 in
theorem schedule_any (l : List UInt8) (hl : l.length = 64) (w : World) :
    Calls Tryd.prog 39 #[.agg (byts l).toArray] w fun e w' => e = .returned (.agg (words (sched l 64)).toArray) ∧ Below w.heap.size w w' := by
  go_enter Tryd.func39, Tryd.ntmps39
  go_wp2_with fail
  generalize hw1 : World.alloc (World.alloc (World.alloc w _) _) _ = w1
  obtain ⟨r0, r1, r2, hb1, hs1⟩ := rows3 (A := byts l) (B := part [] 64) (C := part [] 64) hw1
  clear hw1
  go_loopw [6] (fun i wr => ∃ k : Nat, k ≤ 16 ∧ i = .int .i64 k ∧ Row wr w.heap.size 49 (byts l) ∧ Row wr (w.heap.size + 1) 68 (part [] 64) ∧ Row wr (w.heap.size + 1 + 1) 68 (part (sched l k) 64) ∧ Below w.heap.size w wr) (fun i _ => 16 - (intOf i).toNat)
  case atStart => exact ⟨0, by omega, rfl, r0, r1, r2, hb1⟩
  case round =>
    clear r0 r1 r2 hb1 hs1
    obtain ⟨k, hk, rfl, r0, r1, r2, hb⟩ := hrel
    by_cases hlt : k < 16
    · have hI1 : (0 : Int) ≤ 4 * (k : Int) := by omega
      have hI2 : 4 * (k : Int) ≤ 64 := by omega
      have hI3 : ¬ (64 = 4 * k) := by omega
      have hsl : Sl wr (some ⟨w.heap.size, 4 * k, none⟩) (64 - 4 * k) (byts (l.drop (4 * k))) := by
        have h0 : Sl wr (some ⟨w.heap.size, 0, none⟩) 64 (byts l) := ⟨Rd.row (ys := []) (by rw [List.append_nil]; exact r0), by rw [length_byts]; omega, fun h => by cases h⟩
        have h1 := h0.cut (k := 4 * k) (by rw [length_byts]; omega)
        rw [Nat.zero_add, show (byts l).drop (4 * k) = byts (l.drop (4 * k)) from by unfold byts; rw [List.map_drop]] at h1
        exact h1
      have hln := Lib.hid (show 64 - 4 * k = (l.drop (4 * k)).length by rw [List.length_drop, hl])
      have hle := Lib.hid (show (l.drop (4 * k)).length ≤ 1000000 by rw [List.length_drop]; omega)
      have hk6 := Lib.hid (length_sched l k)
      have hlo := Lib.hid (next_low l k hlt)
      have hwl := hb.size
      have hlt0 := r0.lt
      have hlt1 := r1.lt
      have hlt2 := r2.lt
      go_wp2_with (go_at_call 45; refine (get_at _ _ _ (l.drop (4 * k)) _ hsl hln.out hle.out).mono ?_; rintro e w2 ⟨rfl, hb2⟩; rw [← u_getW, ← hlo.out]; have q0 := r0.later hb2 hlt0; have q1 := r1.later hb2 hlt1; have q2 := r2.later hb2 hlt2; have c2 : w2.cell? ⟨w.heap.size + 1 + 1, k, none⟩ = some (.int .u32 0) := (q2.cell k).trans (part_zero (sched l k) 64 k hk6.out (by omega)); have f2 := q2.free k; have hbw := hb.trans (hb2.mono hwl); clear r0 r1 r2 hsl hb2)
      go_roundw
      case rel =>
        refine ⟨k + 1, by omega, by go_num, q0.far _ _ (by show w.heap.size ≠ w.heap.size + 1 + 1; omega), q1.far _ _ (Nat.ne_of_lt (Nat.lt_succ_self _)), ?_, hbw.setCell (by show w.heap.size ≤ w.heap.size + 1 + 1; omega) _⟩
        have := q2.set k (.int .u32 (u (nextW l (sched l k))))
        rw [show (part (sched l k) 64).set k (.int .u32 (u (nextW l (sched l k)))) = part (sched l k ++ [nextW l (sched l k)]) 64 from by
          have := part_set (sched l k) 64 (nextW l (sched l k)) (by have := hk6.out; omega); rw [hk6.out] at this; exact this] at this
        exact this
      case measure => simp [intOf]; omega
    · have e16 : k = 16 := by omega
      rw [e16] at r2
      clear e16
      go_wp2_with fail
      go_loopw [5] (fun i wr => ∃ j : Nat, j ≤ 48 ∧ i = .int .i64 ((j : Int) + 16) ∧ Row wr (w.heap.size + 1) 68 (part [] 64) ∧ Row wr (w.heap.size + 1 + 1) 68 (part (sched l (j + 16)) 64) ∧ Below w.heap.size w wr) (fun i _ => 64 - (intOf i).toNat)
      case atStart => exact ⟨0, by omega, rfl, r1, r2, hb⟩
      case round =>
        clear r0 r1 r2 hb
        obtain ⟨j, hj, rfl, r1, r2, hb⟩ := hrel
        by_cases hlt : j < 48
        · go_wp2_with fail
          have hk6 := length_sched l (j + 16)
          have q2 := r2.drew
          have c2 := (q2.cell (j + 14)).trans (part_get (sched l (j + 16)) 64 (j + 14) (by omega))
          have c7 := (q2.cell (j + 9)).trans (part_get (sched l (j + 16)) 64 (j + 9) (by omega))
          have c15 := (q2.cell (j + 1)).trans (part_get (sched l (j + 16)) 64 (j + 1) (by omega))
          have c16 := (q2.cell j).trans (part_get (sched l (j + 16)) 64 j (by omega))
          have ck := (q2.cell (j + 16)).trans (part_zero (sched l (j + 16)) 64 (j + 16) hk6 (by omega))
          have fk := q2.free (j + 16)
          have hnx := next_high l (j + 16) (by omega)
          rw [show j + 16 - 2 = j + 14 by omega, show j + 16 - 7 = j + 9 by omega, show j + 16 - 15 = j + 1 by omega, show j + 16 - 16 = j by omega] at hnx
          generalize (sched l (j + 16)).getD (j + 14) 0#32 = x2 at *
          generalize (sched l (j + 16)).getD (j + 9) 0#32 = x7 at *
          generalize (sched l (j + 16)).getD (j + 1) 0#32 = x15 at *
          generalize (sched l (j + 16)).getD j 0#32 = x16 at *
          have HNX := Lib.hid hnx
          have HK6 := Lib.hid hk6
          clear hnx hk6
          have w2 : IntKind.i64.wrap ((j : Int) + 16 - 2) = (j : Int) + 14 := by rw [IntKind.wrap_i64]; omega
          have w7 : IntKind.i64.wrap ((j : Int) + 16 - 7) = (j : Int) + 9 := by rw [IntKind.wrap_i64]; omega
          have w15 : IntKind.i64.wrap ((j : Int) + 16 - 15) = (j : Int) + 1 := by rw [IntKind.wrap_i64]; omega
          have w16 : IntKind.i64.wrap ((j : Int) + 16 - 16) = (j : Int) := by rw [IntKind.wrap_i64]; omega
          have n14 : (0 : Int) ≤ (j : Int) + 14 := by omega
          have m14 : (j : Int) + 14 < 64 := by omega
          have t14 : ((j : Int) + 14).toNat = j + 14 := by omega
          have n9 : (0 : Int) ≤ (j : Int) + 9 := by omega
          have m9 : (j : Int) + 9 < 64 := by omega
          have t9 : ((j : Int) + 9).toNat = j + 9 := by omega
          have n1 : (0 : Int) ≤ (j : Int) + 1 := by omega
          have m1 : (j : Int) + 1 < 64 := by omega
          have t1 : ((j : Int) + 1).toNat = j + 1 := by omega
          have n16 : (0 : Int) ≤ (j : Int) + 16 := by omega
          have m16 : (j : Int) + 16 < 64 := by omega
          have t16 : ((j : Int) + 16).toNat = j + 16 := by omega
          have m0 : (j : Int) < 64 := by omega
          have w0 : IntKind.i64.wrap (j : Int) = (j : Int) := by rw [IntKind.wrap_i64]; omega
          refine wp_region_noPanic ?_
          refine wp_region_held_drew (S := fun w' => w'.cell? ⟨w.heap.size + 1 + 1, j + 14, none⟩ = some (.int .u32 (u x2)) ∧ w'.cell? ⟨w.heap.size + 1 + 1, j + 9, none⟩ = some (.int .u32 (u x7)) ∧ w'.cell? ⟨w.heap.size + 1 + 1, j + 1, none⟩ = some (.int .u32 (u x15)) ∧ w'.cell? ⟨w.heap.size + 1 + 1, j, none⟩ = some (.int .u32 (u x16))) (by kernel_rfl) (⟨c2, c7, c15, c16⟩) (fun hHeld => ?_)
          refine rtake 0 _ (some 20) _ rfl rfl (by kernel_rfl) (by kernel_rfl) (by kernel_rfl) (fun _ _ _ h => h) (by rfl) hHeld (by intro w hS; obtain ⟨s2, s7, s15, s16⟩ := hS; go_simp; try with_reducible rfl) ?_
          try (rw [put_some]; dsimp only [List.set])
          refine rtake 1 _ (some 21) _ rfl rfl (by kernel_rfl) (by kernel_rfl) (by kernel_rfl) (fun _ _ _ h => h) (by rfl) hHeld (by intro w hS; obtain ⟨s2, s7, s15, s16⟩ := hS; go_simp; try with_reducible rfl) ?_
          try (rw [put_some]; dsimp only [List.set])
          refine rtake 6 _ (some 26) _ rfl rfl (by kernel_rfl) (by kernel_rfl) (by kernel_rfl) (fun _ _ _ h => h) (by rfl) hHeld (by intro w hS; obtain ⟨s2, s7, s15, s16⟩ := hS; go_simp; try with_reducible rfl) ?_
          try (rw [put_some]; dsimp only [List.set])
          refine rtake 11 _ (some 31) _ rfl rfl (by kernel_rfl) (by kernel_rfl) (by kernel_rfl) (fun _ _ _ h => h) (by rfl) hHeld (by intro w hS; obtain ⟨s2, s7, s15, s16⟩ := hS; go_simp; try with_reducible rfl) ?_
          try (rw [put_some]; dsimp only [List.set])
          refine rtake 17 _ (some 37) _ rfl rfl (by kernel_rfl) (by kernel_rfl) (by kernel_rfl) (fun _ _ _ h => h) (by rfl) hHeld (by intro w hS; obtain ⟨s2, s7, s15, s16⟩ := hS; go_simp; try with_reducible rfl) ?_
          try (rw [put_some]; dsimp only [List.set])
          refine rtake 2 _ (some 22) _ rfl rfl (by kernel_rfl) (by kernel_rfl) (by kernel_rfl) (fun _ _ _ h => h) (by rfl) hHeld (by intro w hS; obtain ⟨s2, s7, s15, s16⟩ := hS; go_simp; try with_reducible rfl) ?_
          try (rw [put_some]; dsimp only [List.set])
          refine rtake 7 _ (some 27) _ rfl rfl (by kernel_rfl) (by kernel_rfl) (by kernel_rfl) (fun _ _ _ h => h) (by rfl) hHeld (by intro w hS; obtain ⟨s2, s7, s15, s16⟩ := hS; go_simp; try with_reducible rfl) ?_
          try (rw [put_some]; dsimp only [List.set])
          refine rtake 12 _ (some 32) _ rfl rfl (by kernel_rfl) (by kernel_rfl) (by kernel_rfl) (fun _ _ _ h => h) (by rfl) hHeld (by intro w hS; obtain ⟨s2, s7, s15, s16⟩ := hS; go_simp; try with_reducible rfl) ?_
          try (rw [put_some]; dsimp only [List.set])
          refine rtake 18 _ (some 38) _ rfl rfl (by kernel_rfl) (by kernel_rfl) (by kernel_rfl) (fun _ _ _ h => h) (by rfl) hHeld (by intro w hS; obtain ⟨s2, s7, s15, s16⟩ := hS; go_simp; try with_reducible rfl) ?_
          try (rw [put_some]; dsimp only [List.set])
          refine rtake 3 _ (some 23) _ rfl rfl (by kernel_rfl) (by kernel_rfl) (by kernel_rfl) (fun _ _ _ h => h) (by rfl) hHeld (by intro w hS; obtain ⟨s2, s7, s15, s16⟩ := hS; go_simp; try with_reducible rfl) ?_
          try (rw [put_some]; dsimp only [List.set])
          refine rtake 8 _ (some 28) _ rfl rfl (by kernel_rfl) (by kernel_rfl) (by kernel_rfl) (fun _ _ _ h => h) (by rfl) hHeld (by intro w hS; obtain ⟨s2, s7, s15, s16⟩ := hS; go_simp; try with_reducible rfl) ?_
          try (rw [put_some]; dsimp only [List.set])
          refine rtake 13 _ (some 33) _ rfl rfl (by kernel_rfl) (by kernel_rfl) (by kernel_rfl) (fun _ _ _ h => h) (by rfl) hHeld (by intro w hS; obtain ⟨s2, s7, s15, s16⟩ := hS; go_simp; try with_reducible rfl) ?_
          try (rw [put_some]; dsimp only [List.set])
          refine rtake 19 _ (some 39) _ rfl rfl (by kernel_rfl) (by kernel_rfl) (by kernel_rfl) (fun _ _ _ h => h) (by rfl) hHeld (by intro w hS; obtain ⟨s2, s7, s15, s16⟩ := hS; go_simp; try with_reducible rfl) ?_
          try (rw [put_some]; dsimp only [List.set])
          refine rtake 4 _ (some 24) _ rfl rfl (by kernel_rfl) (by kernel_rfl) (by kernel_rfl) (fun _ _ _ h => h) (by rfl) hHeld (by intro w hS; obtain ⟨s2, s7, s15, s16⟩ := hS; go_simp; try with_reducible rfl) ?_
          try (rw [put_some]; dsimp only [List.set])
          refine rtake 9 _ (some 29) _ rfl rfl (by kernel_rfl) (by kernel_rfl) (by kernel_rfl) (fun _ _ _ h => h) (by rfl) hHeld (by intro w hS; obtain ⟨s2, s7, s15, s16⟩ := hS; go_simp; try with_reducible rfl) ?_
          try (rw [put_some]; dsimp only [List.set])
          refine rtake 14 _ (some 34) _ rfl rfl (by kernel_rfl) (by kernel_rfl) (by kernel_rfl) (fun _ _ _ h => h) (by rfl) hHeld (by intro w hS; obtain ⟨s2, s7, s15, s16⟩ := hS; go_simp; try with_reducible rfl) ?_
          try (rw [put_some]; dsimp only [List.set])
          refine rtake 20 _ (some 40) _ rfl rfl (by kernel_rfl) (by kernel_rfl) (by kernel_rfl) (fun _ _ _ h => h) (by rfl) hHeld (by intro w hS; obtain ⟨s2, s7, s15, s16⟩ := hS; go_simp; try with_reducible rfl) ?_
          try (rw [put_some]; dsimp only [List.set])
          refine wpAnyH_ready (rs := [5]) (by kernel_rfl) (by simp) (AllReadyH.cons (o := _) rfl (fun K hK => ?_) AllReadyH.nil)
          go_simp
          refine (small_any _ _ _).mono ?_; rintro e w' ⟨rfl, rfl⟩
          try go_wp2_with fail
          refine hK.out _ _ hHeld (fun _ => ?_)
          clear hK K
          try (rw [put_some]; dsimp only [List.set])
          refine rtake 10 _ (some 30) _ rfl rfl (by kernel_rfl) (by kernel_rfl) (by kernel_rfl) (fun _ _ _ h => h) (by rfl) hHeld (by intro w hS; obtain ⟨s2, s7, s15, s16⟩ := hS; go_simp; try with_reducible rfl) ?_
          try (rw [put_some]; dsimp only [List.set])
          refine wpAnyH_ready (rs := [15]) (by kernel_rfl) (by simp) (AllReadyH.cons (o := _) rfl (fun K hK => ?_) AllReadyH.nil)
          go_simp
          refine (small_any _ _ _).mono ?_; rintro e w' ⟨rfl, rfl⟩
          try go_wp2_with fail
          refine hK.out _ _ hHeld (fun _ => ?_)
          clear hK K
          try (rw [put_some]; dsimp only [List.set])
          refine rtake 16 _ (some 36) _ rfl rfl (by kernel_rfl) (by kernel_rfl) (by kernel_rfl) (fun _ _ _ h => h) (by rfl) hHeld (by intro w hS; obtain ⟨s2, s7, s15, s16⟩ := hS; go_simp; try with_reducible rfl) ?_
          try (rw [put_some]; dsimp only [List.set])
          refine rtake 21 _ (some 41) _ rfl rfl (by kernel_rfl) (by kernel_rfl) (by kernel_rfl) (fun _ _ _ h => h) (by rfl) hHeld (by intro w hS; obtain ⟨s2, s7, s15, s16⟩ := hS; go_simp; try with_reducible rfl) ?_
          try (rw [put_some]; dsimp only [List.set])
          refine rtake 22 _ (some 42) _ rfl rfl (by kernel_rfl) (by kernel_rfl) (by kernel_rfl) (fun _ _ _ h => h) (by rfl) hHeld (by intro w hS; obtain ⟨s2, s7, s15, s16⟩ := hS; go_simp; try with_reducible rfl) ?_
          try (rw [put_some]; dsimp only [List.set])
          refine wpAnyH_ready (rs := [23]) (by kernel_rfl) (by simp) (AllReadyH.cons (o := _) rfl (fun K hK => ?_) AllReadyH.nil)
          go_simp
          refine hK.out _ _ (by exact ⟨(cell_far _ (by omega)).trans c2, (cell_far _ (by omega)).trans c7, (cell_far _ (by omega)).trans c15, (cell_far _ (by omega)).trans c16⟩) (fun _ => ?_)
          clear hK K
          try (rw [put_some]; dsimp only [List.set])
          refine wpAnyH_done (by kernel_rfl) ?_ _
          refine NoPanic.normal ?_
          clear c2 c7 c15 c16 ck fk w2 w7 w15 w16 n14 m14 t14 n9 m9 t9 n1 m1 t1 n16 m16 t16 m0 w0 q2 hHeld
          go_wp2_with fail
          go_roundw
          case rel =>
            refine ⟨j + 1, by omega, by go_num, (r1.far _ _ (Nat.ne_of_lt (Nat.lt_succ_self _))).drew, ?_, (hb.setCell (by show w.heap.size ≤ w.heap.size + 1 + 1; omega) _).drew⟩
            have h := (r2.set (j + 16) (.int .u32 (u (nextW l (sched l (j + 16)))))).drew
            have e := part_set (sched l (j + 16)) 64 (nextW l (sched l (j + 16))) (by rw [HK6.out]; omega)
            rw [HK6.out] at e
            rw [e, HNX.out] at h
            rw [show j + 1 + 16 = j + 16 + 1 by omega, sched, HNX.out]
            exact h
          case measure => simp [intOf]; omega
        · obtain rfl : j = 48 := by omega
          have hz := part_all (sched l 64)
          rw [length_sched] at hz
          rw [hz] at r2
          have R2 := Lib.hid (show wr.heap[w.heap.size + 1 + 1]? = some (.cells (words (sched l 64)).toArray 68 (0, 0)) from r2)
          have R1 := Lib.hid (show wr.heap[w.heap.size + 1]? = some (.cells (part [] 64).toArray 68 (0, 0)) from r1)
          have hsz := Lib.hid (show (Tryd.prog.info? 68).map (·.size) = some (words (sched l 64)).toArray.size by rw [size64, List.size_toArray, length_words, length_sched])
          have hszo := Lib.hid (show (part [] 64).toArray.size = (words (sched l 64)).toArray.size by rw [List.size_toArray, List.size_toArray, length_words, length_sched, length_part _ _ (by simp)])
          have hone := Lib.hid (all_one (words_one (sched l 64)))
          generalize hW : words (sched l 64) = W64 at *
          have HW := Lib.hid hW
          clear r1 r2 hz hW
          go_wp2_with (first
            | ((with_reducible refine wpList_load_row rfl 68 (.tmp 3) rfl (w.heap.size + 1 + 1) rfl 68 W64.toArray (0, 0) (.array 64 40) R2.out Tryd.underlying68 rfl hsz.out ?_))
            | ((with_reducible refine wpList_store_row rfl 68 (.tmp 2) (.tmp 43) rfl (w.heap.size + 1) W64.toArray rfl rfl 68 _ R1.out hsz.out hszo.out hone.out ?_); have HG := Lib.hid (setRow_heap wr (w.heap.size + 1) _ W64.toArray 68 (0, 0) R1.out))
            | (with_reducible refine bodyPost_ret (results_cell_row rfl _ _ (w.heap.size + 1) 68 W64.toArray (0, 0) (.array 64 40) rfl HG.out Tryd.underlying68 rfl hsz.out) rfl ?_))
          exact ⟨by rw [HW.out], below_setRow hb (by omega) _⟩
end Go.Proofs.YtefbopgbikmohaaDoor
