/- Texts of this claim, one behind the other. -/
import Derived.Test.YtimdhdimhboboaaGreatDoorRaab
import Derived.Laws.Rows
import Derived.Laws.Tables
import Derived.Deep.QuietTactic
import Derived.BigQuiet
import Derived.Deep.MidRow
/- LAYER 2: the schedule: package block's. -/
namespace Go.Proofs.YtimdhdimhboboaaGreatDoor
set_option maxRecDepth 100000
open Go.RowKit

def words (xs : List (BitVec 32)) : List Value := xs.map fun x => Value.int .u32 (u x)
theorem length_words (xs : List (BitVec 32)) : (words xs).length = xs.length := by unfold words; simp
theorem words_append (xs ys : List (BitVec 32)) : words (xs ++ ys) = words xs ++ words ys := by unfold words; simp
theorem get_words (xs : List (BitVec 32)) (i : Nat) (h : i < xs.length) : (words xs)[i]? = some (.int .u32 (u (xs.getD i 0#32))) := by
  unfold words; simp [h]
theorem words_one (xs : List (BitVec 32)) : ∀ v ∈ words xs, v.oneCell' = true := by
  intro v hv
  obtain ⟨_, _, rfl⟩ := List.mem_map.1 hv
  rfl
/-- The first four bytes as a word. -/
def getW (l : List UInt8) : BitVec 32 := BitVec.ofNat 32 (getV l).toNat
theorem u_getW (l : List UInt8) : u (getW l) = getV l := by
  have b0 := byte_bd (l.getD 0 0)
  have b1 := byte_bd (l.getD 1 0)
  have b2 := byte_bd (l.getD 2 0)
  have b3 := byte_bd (l.getD 3 0)
  unfold u getW
  rw [BitVec.toNat_ofNat]
  have h := getV_eq l
  omega
/-- The next word of a schedule. -/
def nextW (l : List UInt8) (xs : List (BitVec 32)) : BitVec 32 :=
  if xs.length < 16 then getW (l.drop (4 * xs.length))
  else small 1 (xs.getD (xs.length - 2) 0#32) + xs.getD (xs.length - 7) 0#32 + small 0 (xs.getD (xs.length - 15) 0#32) + xs.getD (xs.length - 16) 0#32
/-- The first k words of a block's schedule. -/
def sched (l : List UInt8) : Nat → List (BitVec 32)
  | 0 => []
  | k + 1 => sched l k ++ [nextW l (sched l k)]
theorem length_sched (l : List UInt8) (k : Nat) : (sched l k).length = k := by
  induction k with
  | zero => rfl
  | succ k ih => simp [sched, ih]
theorem next_low (l : List UInt8) (k : Nat) (h : k < 16) : nextW l (sched l k) = getW (l.drop (4 * k)) := by
  unfold nextW; rw [length_sched, if_pos h]
theorem next_high (l : List UInt8) (k : Nat) (h : 16 ≤ k) : nextW l (sched l k) =
    small 1 ((sched l k).getD (k - 2) 0#32) + (sched l k).getD (k - 7) 0#32 + small 0 ((sched l k).getD (k - 15) 0#32) + (sched l k).getD (k - 16) 0#32 := by
  unfold nextW; rw [length_sched, if_neg (by omega)]
/-- A table that is being filled: k words, and zeros behind them. -/
def part (xs : List (BitVec 32)) (n : Nat) : List Value := words xs ++ List.replicate (n - xs.length) (.int .u32 0)
theorem part_get (xs : List (BitVec 32)) (n i : Nat) (h : i < xs.length) : (part xs n)[i]? = some (.int .u32 (u (xs.getD i 0#32))) := by
  unfold part
  rw [List.getElem?_append_left (by rw [length_words]; exact h), get_words _ _ h]
theorem part_set (xs : List (BitVec 32)) (n : Nat) (x : BitVec 32) (h : xs.length < n) : (part xs n).set xs.length (.int .u32 (u x)) = part (xs ++ [x]) n := by
  unfold part
  rw [List.set_append_right _ _ (by rw [length_words]; exact Nat.le_refl _), length_words, Nat.sub_self, words_append]
  obtain ⟨r, hr⟩ : ∃ r, n - xs.length = r + 1 := ⟨n - xs.length - 1, by omega⟩
  rw [hr, List.replicate_succ, List.set_cons_zero, List.length_append, List.append_assoc]
  have : n - (xs.length + [x].length) = r := by simp; omega
  rw [this]; rfl
theorem part_zero (xs : List (BitVec 32)) (n i : Nat) (h : xs.length = i) (hi : i < n) : (part xs n)[i]? = some (.int .u32 0) := by
  unfold part
  rw [List.getElem?_append_right (by rw [length_words]; omega), length_words, h, Nat.sub_self]
  rw [List.getElem?_replicate, if_pos (by omega)]
theorem part_all (xs : List (BitVec 32)) : part xs xs.length = words xs := by unfold part; simp
theorem length_part (xs : List (BitVec 32)) (n : Nat) (h : xs.length ≤ n) : (part xs n).length = n := by unfold part; simp [length_words]; omega

theorem cell_far {w : World} {g i j : Nat} (v : Value) (h : i ≠ j) : (w.setCell ⟨g, j, none⟩ v).cell? ⟨g, i, none⟩ = w.cell? ⟨g, i, none⟩ := by
  apply World.cell?_setCell_other
  intro e
  injection e with _ e _
  exact h e.symm
theorem size64 : (Tryz.prog.info? 201).map (·.size) = some 64 := by kernel_rfl
/-- Three blocks made one behind the other. -/
theorem rows3 {w w1 : World} {A B C : List Value} {tA tB tC : TypeId} (h : ((w.alloc (.cells A.toArray tA)).alloc (.cells B.toArray tB)).alloc (.cells C.toArray tC) = w1) :
    Row w1 w.heap.size tA A ∧ Row w1 (w.heap.size + 1) tB B ∧ Row w1 (w.heap.size + 1 + 1) tC C ∧ Below w.heap.size w w1 ∧ w1.heap.size = w.heap.size + 3 := by
  subst h
  have s1 : (w.alloc (.cells A.toArray tA)).heap.size = w.heap.size + 1 := World.size_alloc _ _
  have s2 : ((w.alloc (.cells A.toArray tA)).alloc (.cells B.toArray tB)).heap.size = w.heap.size + 2 := by rw [World.size_alloc, s1]
  have b1 : Below (w.alloc (.cells A.toArray tA)).heap.size (w.alloc (.cells A.toArray tA)) (((w.alloc (.cells A.toArray tA)).alloc (.cells B.toArray tB)).alloc (.cells C.toArray tC)) :=
    (((Below.refl _ _).alloc (Nat.le_refl _) _).alloc (by rw [World.size_alloc]; omega) _)
  have b2 : Below ((w.alloc (.cells A.toArray tA)).alloc (.cells B.toArray tB)).heap.size ((w.alloc (.cells A.toArray tA)).alloc (.cells B.toArray tB)) (((w.alloc (.cells A.toArray tA)).alloc (.cells B.toArray tB)).alloc (.cells C.toArray tC)) :=
    (Below.refl _ _).alloc (Nat.le_refl _) _
  refine ⟨(Row.new w tA A).later b1 (by rw [s1]; omega), ?_, ?_, ?_, ?_⟩
  · have := (Row.new (w.alloc (.cells A.toArray tA)) tB B).later b2 (by rw [s2, s1]; omega)
    rw [s1] at this; exact this
  · have := Row.new ((w.alloc (.cells A.toArray tA)).alloc (.cells B.toArray tB)) tC C
    rw [s2] at this; exact this
  · exact ((Below.refl _ _).alloc (Nat.le_refl _) _).trans (b1.mono (by rw [s1]; omega))
  · rw [World.size_alloc, s2]
theorem size64b : (Tryz.prog.info? 130).map (·.size) = some 64 := by kernel_rfl
set_option maxHeartbeats 2000000 in
theorem schedule_any (l : List UInt8) (hl : l.length = 64) (w : World) :
    Calls Tryz.prog 163 #[.agg (byts l).toArray] w fun e w' => e = .returned (.agg (words (sched l 64)).toArray) ∧ Below w.heap.size w w' := by
  go_enter Tryz.func163, Tryz.ntmps163
  go_wp2_with fail
  generalize hw1 : World.alloc (World.alloc (World.alloc w _) _) _ = w1
  obtain ⟨r0, r1, r2, hb1, hs1⟩ := rows3 (A := byts l) (B := part [] 64) (C := part [] 64) hw1
  clear hw1
  go_loopw [6] (fun i wr => ∃ k : Nat, k ≤ 16 ∧ i = .int .i64 k ∧ Row wr w.heap.size 130 (byts l) ∧ Row wr (w.heap.size + 1) 201 (part [] 64) ∧ Row wr (w.heap.size + 1 + 1) 201 (part (sched l k) 64) ∧ Below w.heap.size w wr) (fun i _ => 16 - (intOf i).toNat)
  case atStart => exact ⟨0, by omega, rfl, r0, r1, r2, hb1⟩
  case round =>
    clear r0 r1 r2 hb1 hs1
    obtain ⟨k, hk, rfl, r0, r1, r2, hb⟩ := hrel
    by_cases hlt : k < 16
    · have hI1 : (0 : Int) ≤ 4 * (k : Int) := by omega
      have hI2 : 4 * (k : Int) ≤ 64 := by omega
      have hI3 : ¬ (64 = 4 * k) := by omega
      have hsl : Sl wr (some ⟨w.heap.size, 4 * k, none⟩) (64 - 4 * k) (byts (l.drop (4 * k))) := by
        have h0 : Sl wr (some ⟨w.heap.size, 0, none⟩) 64 (byts l) := ⟨Rd.row (ys := []) (by rw [List.append_nil]; exact r0), by rw [length_byts]; omega, fun h => by cases h⟩
        have h1 := h0.cut (k := 4 * k) (by rw [length_byts]; omega)
        rw [Nat.zero_add, show (byts l).drop (4 * k) = byts (l.drop (4 * k)) from by unfold byts; rw [List.map_drop]] at h1
        exact h1
      have hln := Lib.hid (show 64 - 4 * k = (l.drop (4 * k)).length by rw [List.length_drop, hl])
      have hle := Lib.hid (show (l.drop (4 * k)).length ≤ 1000000 by rw [List.length_drop]; omega)
      have hk6 := Lib.hid (length_sched l k)
      have hlo := Lib.hid (next_low l k hlt)
      have hwl := hb.size
      have hlt0 := r0.lt
      have hlt1 := r1.lt
      have hlt2 := r2.lt
      go_wp2_with (go_at_call 206; refine (get_at _ _ _ (l.drop (4 * k)) _ hsl hln.out hle.out).mono ?_; rintro e w2 ⟨rfl, hb2⟩; rw [← u_getW, ← hlo.out]; have q0 := r0.later hb2 hlt0; have q1 := r1.later hb2 hlt1; have q2 := r2.later hb2 hlt2; have c2 : w2.cell? ⟨w.heap.size + 1 + 1, k, none⟩ = some (.int .u32 0) := (q2.cell k).trans (part_zero (sched l k) 64 k hk6.out (by omega)); have f2 := q2.free k; have hbw := hb.trans (hb2.mono hwl); clear r0 r1 r2 hsl hb2)
      go_roundw
      case rel =>
        refine ⟨k + 1, by omega, by go_num, q0.far _ _ (by show w.heap.size ≠ w.heap.size + 1 + 1; omega), q1.far _ _ (Nat.ne_of_lt (Nat.lt_succ_self _)), ?_, hbw.setCell (by show w.heap.size ≤ w.heap.size + 1 + 1; omega) _⟩
        have := q2.set k (.int .u32 (u (nextW l (sched l k))))
        rw [show (part (sched l k) 64).set k (.int .u32 (u (nextW l (sched l k)))) = part (sched l k ++ [nextW l (sched l k)]) 64 from by
          have := part_set (sched l k) 64 (nextW l (sched l k)) (by have := hk6.out; omega); rw [hk6.out] at this; exact this] at this
        exact this
      case measure => simp [intOf]; omega
    · have e16 : k = 16 := by omega
      rw [e16] at r2
      clear e16
      go_wp2_with fail
      go_loopw [5] (fun i wr => ∃ j : Nat, j ≤ 48 ∧ i = .int .i64 ((j : Int) + 16) ∧ Row wr (w.heap.size + 1) 201 (part [] 64) ∧ Row wr (w.heap.size + 1 + 1) 201 (part (sched l (j + 16)) 64) ∧ Below w.heap.size w wr) (fun i _ => 64 - (intOf i).toNat)
      case atStart => exact ⟨0, by omega, rfl, r1, r2, hb⟩
      case round =>
        clear r0 r1 r2 hb
        obtain ⟨j, hj, rfl, r1, r2, hb⟩ := hrel
        by_cases hlt : j < 48
        · go_wp2_with fail
          have hk6 := length_sched l (j + 16)
          have q2 := r2.drew
          have c2 := (q2.cell (j + 14)).trans (part_get (sched l (j + 16)) 64 (j + 14) (by omega))
          have c7 := (q2.cell (j + 9)).trans (part_get (sched l (j + 16)) 64 (j + 9) (by omega))
          have c15 := (q2.cell (j + 1)).trans (part_get (sched l (j + 16)) 64 (j + 1) (by omega))
          have c16 := (q2.cell j).trans (part_get (sched l (j + 16)) 64 j (by omega))
          have ck := (q2.cell (j + 16)).trans (part_zero (sched l (j + 16)) 64 (j + 16) hk6 (by omega))
          have fk := q2.free (j + 16)
          have hnx := next_high l (j + 16) (by omega)
          rw [show j + 16 - 2 = j + 14 by omega, show j + 16 - 7 = j + 9 by omega, show j + 16 - 15 = j + 1 by omega, show j + 16 - 16 = j by omega] at hnx
          generalize (sched l (j + 16)).getD (j + 14) 0#32 = x2 at *
          generalize (sched l (j + 16)).getD (j + 9) 0#32 = x7 at *
          generalize (sched l (j + 16)).getD (j + 1) 0#32 = x15 at *
          generalize (sched l (j + 16)).getD j 0#32 = x16 at *
          have HNX := Lib.hid hnx
          have HK6 := Lib.hid hk6
          clear hnx hk6
          have w2 : IntKind.i64.wrap ((j : Int) + 16 - 2) = (j : Int) + 14 := by rw [IntKind.wrap_i64]; omega
          have w7 : IntKind.i64.wrap ((j : Int) + 16 - 7) = (j : Int) + 9 := by rw [IntKind.wrap_i64]; omega
          have w15 : IntKind.i64.wrap ((j : Int) + 16 - 15) = (j : Int) + 1 := by rw [IntKind.wrap_i64]; omega
          have w16 : IntKind.i64.wrap ((j : Int) + 16 - 16) = (j : Int) := by rw [IntKind.wrap_i64]; omega
          have n14 : (0 : Int) ≤ (j : Int) + 14 := by omega
          have m14 : (j : Int) + 14 < 64 := by omega
          have t14 : ((j : Int) + 14).toNat = j + 14 := by omega
          have n9 : (0 : Int) ≤ (j : Int) + 9 := by omega
          have m9 : (j : Int) + 9 < 64 := by omega
          have t9 : ((j : Int) + 9).toNat = j + 9 := by omega
          have n1 : (0 : Int) ≤ (j : Int) + 1 := by omega
          have m1 : (j : Int) + 1 < 64 := by omega
          have t1 : ((j : Int) + 1).toNat = j + 1 := by omega
          have n16 : (0 : Int) ≤ (j : Int) + 16 := by omega
          have m16 : (j : Int) + 16 < 64 := by omega
          have t16 : ((j : Int) + 16).toNat = j + 16 := by omega
          have m0 : (j : Int) < 64 := by omega
          have w0 : IntKind.i64.wrap (j : Int) = (j : Int) := by rw [IntKind.wrap_i64]; omega
          refine wp_region_noPanic ?_
          refine wp_region_held_drew (S := fun w' => w'.cell? ⟨w.heap.size + 1 + 1, j + 14, none⟩ = some (.int .u32 (u x2)) ∧ w'.cell? ⟨w.heap.size + 1 + 1, j + 9, none⟩ = some (.int .u32 (u x7)) ∧ w'.cell? ⟨w.heap.size + 1 + 1, j + 1, none⟩ = some (.int .u32 (u x15)) ∧ w'.cell? ⟨w.heap.size + 1 + 1, j, none⟩ = some (.int .u32 (u x16))) (by kernel_rfl) (⟨c2, c7, c15, c16⟩) (fun hHeld => ?_)
          refine rt 0 20 hHeld ?_ (hy := by intro w hS; obtain ⟨s2, s7, s15, s16⟩ := hS; go_simp; try with_reducible rfl)
          refine rt 1 21 hHeld ?_ (hy := by intro w hS; obtain ⟨s2, s7, s15, s16⟩ := hS; go_simp; try with_reducible rfl)
          refine rt 6 26 hHeld ?_ (hy := by intro w hS; obtain ⟨s2, s7, s15, s16⟩ := hS; go_simp; try with_reducible rfl)
          refine rt 11 31 hHeld ?_ (hy := by intro w hS; obtain ⟨s2, s7, s15, s16⟩ := hS; go_simp; try with_reducible rfl)
          refine rt 17 37 hHeld ?_ (hy := by intro w hS; obtain ⟨s2, s7, s15, s16⟩ := hS; go_simp; try with_reducible rfl)
          refine rt 2 22 hHeld ?_ (hy := by intro w hS; obtain ⟨s2, s7, s15, s16⟩ := hS; go_simp; try with_reducible rfl)
          refine rt 7 27 hHeld ?_ (hy := by intro w hS; obtain ⟨s2, s7, s15, s16⟩ := hS; go_simp; try with_reducible rfl)
          refine rt 12 32 hHeld ?_ (hy := by intro w hS; obtain ⟨s2, s7, s15, s16⟩ := hS; go_simp; try with_reducible rfl)
          refine rt 18 38 hHeld ?_ (hy := by intro w hS; obtain ⟨s2, s7, s15, s16⟩ := hS; go_simp; try with_reducible rfl)
          refine rt 3 23 hHeld ?_ (hy := by intro w hS; obtain ⟨s2, s7, s15, s16⟩ := hS; go_simp; try with_reducible rfl)
          refine rt 8 28 hHeld ?_ (hy := by intro w hS; obtain ⟨s2, s7, s15, s16⟩ := hS; go_simp; try with_reducible rfl)
          refine rt 13 33 hHeld ?_ (hy := by intro w hS; obtain ⟨s2, s7, s15, s16⟩ := hS; go_simp; try with_reducible rfl)
          refine rt 19 39 hHeld ?_ (hy := by intro w hS; obtain ⟨s2, s7, s15, s16⟩ := hS; go_simp; try with_reducible rfl)
          refine rt 4 24 hHeld ?_ (hy := by intro w hS; obtain ⟨s2, s7, s15, s16⟩ := hS; go_simp; try with_reducible rfl)
          refine rt 9 29 hHeld ?_ (hy := by intro w hS; obtain ⟨s2, s7, s15, s16⟩ := hS; go_simp; try with_reducible rfl)
          refine rt 14 34 hHeld ?_ (hy := by intro w hS; obtain ⟨s2, s7, s15, s16⟩ := hS; go_simp; try with_reducible rfl)
          refine rt 20 40 hHeld ?_ (hy := by intro w hS; obtain ⟨s2, s7, s15, s16⟩ := hS; go_simp; try with_reducible rfl)
          refine wpAnyH_ready (rs := [5]) (by kernel_rfl) (by simp) (AllReadyH.cons (o := _) rfl (fun K hK => ?_) AllReadyH.nil)
          go_simp
          refine (small_any _ _ _).mono ?_; rintro e w' ⟨rfl, rfl⟩
          try go_wp2_with fail
          refine hK.out _ _ hHeld (fun _ => ?_)
          clear hK K
          try (rw [put_some]; dsimp only [List.set])
          refine rt 10 30 hHeld ?_ (hy := by intro w hS; obtain ⟨s2, s7, s15, s16⟩ := hS; go_simp; try with_reducible rfl)
          refine wpAnyH_ready (rs := [15]) (by kernel_rfl) (by simp) (AllReadyH.cons (o := _) rfl (fun K hK => ?_) AllReadyH.nil)
          go_simp
          refine (small_any _ _ _).mono ?_; rintro e w' ⟨rfl, rfl⟩
          try go_wp2_with fail
          refine hK.out _ _ hHeld (fun _ => ?_)
          clear hK K
          try (rw [put_some]; dsimp only [List.set])
          refine rt 16 36 hHeld ?_ (hy := by intro w hS; obtain ⟨s2, s7, s15, s16⟩ := hS; go_simp; try with_reducible rfl)
          refine rt 21 41 hHeld ?_ (hy := by intro w hS; obtain ⟨s2, s7, s15, s16⟩ := hS; go_simp; try with_reducible rfl)
          refine rt 22 42 hHeld ?_ (hy := by intro w hS; obtain ⟨s2, s7, s15, s16⟩ := hS; go_simp; try with_reducible rfl)
          refine wpAnyH_ready (rs := [23]) (by kernel_rfl) (by simp) (AllReadyH.cons (o := _) rfl (fun K hK => ?_) AllReadyH.nil)
          go_simp
          refine hK.out _ _ (by exact ⟨(cell_far _ (by omega)).trans c2, (cell_far _ (by omega)).trans c7, (cell_far _ (by omega)).trans c15, (cell_far _ (by omega)).trans c16⟩) (fun _ => ?_)
          clear hK K
          try (rw [put_some]; dsimp only [List.set])
          refine wpAnyH_done (by kernel_rfl) ?_ _
          refine NoPanic.normal ?_
          clear c2 c7 c15 c16 ck fk w2 w7 w15 w16 n14 m14 t14 n9 m9 t9 n1 m1 t1 n16 m16 t16 m0 w0 q2 hHeld
          go_wp2_with fail
          go_roundw
          case rel =>
            refine ⟨j + 1, by omega, by go_num, (r1.far _ _ (Nat.ne_of_lt (Nat.lt_succ_self _))).drew, ?_, (hb.setCell (by show w.heap.size ≤ w.heap.size + 1 + 1; omega) _).drew⟩
            have h := (r2.set (j + 16) (.int .u32 (u (nextW l (sched l (j + 16)))))).drew
            have e := part_set (sched l (j + 16)) 64 (nextW l (sched l (j + 16))) (by rw [HK6.out]; omega)
            rw [HK6.out] at e
            rw [e, HNX.out] at h
            rw [show j + 1 + 16 = j + 16 + 1 by omega, sched, HNX.out]
            exact h
          case measure => simp [intOf]; omega
        · obtain rfl : j = 48 := by omega
          have hz := part_all (sched l 64)
          rw [length_sched] at hz
          rw [hz] at r2
          have R2 := Lib.hid (show wr.heap[w.heap.size + 1 + 1]? = some (.cells (words (sched l 64)).toArray 201 (0, 0)) from r2)
          have R1 := Lib.hid (show wr.heap[w.heap.size + 1]? = some (.cells (part [] 64).toArray 201 (0, 0)) from r1)
          have hsz := Lib.hid (show (Tryz.prog.info? 201).map (·.size) = some (words (sched l 64)).toArray.size by rw [size64, List.size_toArray, length_words, length_sched])
          have hszo := Lib.hid (show (part [] 64).toArray.size = (words (sched l 64)).toArray.size by rw [List.size_toArray, List.size_toArray, length_words, length_sched, length_part _ _ (by simp)])
          have hone := Lib.hid (all_one (words_one (sched l 64)))
          generalize hW : words (sched l 64) = W64 at *
          have HW := Lib.hid hW
          clear r1 r2 hz hW
          go_wp2_with (first
            | ((with_reducible refine wpList_load_row rfl 201 (.tmp 3) rfl (w.heap.size + 1 + 1) rfl 201 W64.toArray (0, 0) (.array 64 76) R2.out Tryz.underlying201 rfl hsz.out ?_))
            | ((with_reducible refine wpList_store_row rfl 201 (.tmp 2) (.tmp 43) rfl (w.heap.size + 1) W64.toArray rfl rfl 201 _ R1.out hsz.out hszo.out hone.out ?_); have HG := Lib.hid (setRow_heap wr (w.heap.size + 1) _ W64.toArray 201 (0, 0) R1.out))
            | (with_reducible refine bodyPost_ret (results_cell_row rfl _ _ (w.heap.size + 1) 201 W64.toArray (0, 0) (.array 64 76) rfl HG.out Tryz.underlying201 rfl hsz.out) rfl ?_))
          exact ⟨by rw [HW.out], below_setRow hb (by omega) _⟩
end Go.Proofs.YtimdhdimhboboaaGreatDoor

/- LAYER 2: eight words, and a block: package block's Compress. -/
namespace Go.Proofs.YtimdhdimhboboaaGreatDoor
set_option maxRecDepth 100000
open Go.RowKit

/-- The eight words. -/
structure St where
  a : BitVec 32
  b : BitVec 32
  c : BitVec 32
  d : BitVec 32
  e : BitVec 32
  f : BitVec 32
  g : BitVec 32
  h : BitVec 32
def St.list (s : St) : List (BitVec 32) := [s.a, s.b, s.c, s.d, s.e, s.f, s.g, s.h]
def roundS (s : St) (k w : BitVec 32) : St :=
  ⟨s.h + great 1 s.e + uchoose s.e s.f s.g + k + w + (great 0 s.a + umost s.a s.b s.c), s.a, s.b, s.c, s.d + (s.h + great 1 s.e + uchoose s.e s.f s.g + k + w), s.e, s.f, s.g⟩
/-- The number of the i-th prime's root, as a word. -/
def primeW (i : Nat) : BitVec 32 := BitVec.ofNat 32 (cubeT.getD i 0).toNat
theorem primeW_all : (List.range 64).all (fun i => decide (u (primeW i) = cubeT.getD i 0)) = true := by decide +kernel
theorem u_primeW (i : Nat) (h : i < 64) : u (primeW i) = cubeT.getD i 0 := by
  have := List.all_eq_true.1 primeW_all i (by simpa using h)
  simpa using this
theorem prime_at_any (k : Nat) (w : World) (hT : Cube w) (hk : k < 64) :
    Calls Tryz.prog 166 #[.int .i64 k] w fun e w' => e = .returned (.int .u32 (u (primeW k))) ∧ w = w' := by
  refine (prime_any k w hT (by omega)).mono ?_
  rintro e w' ⟨rfl, rfl⟩
  refine ⟨?_, rfl⟩
  rw [u_primeW k hk]
  unfold primeV
  rw [if_pos (by omega), Int.toNat_natCast]
/-- The eight words behind k rounds. -/
def roundsS (ws : List (BitVec 32)) (s : St) : Nat → St
  | 0 => s
  | k + 1 => roundS (roundsS ws s k) (primeW k) (ws.getD k 0#32)
def addS (s t : St) : St := ⟨s.a + t.a, s.b + t.b, s.c + t.c, s.d + t.d, s.e + t.e, s.f + t.f, s.g + t.g, s.h + t.h⟩
/-- What the eight words become by a block. -/
def compS (l : List UInt8) (s : St) : St := addS (roundsS (sched l 64) s 64) s
theorem cube_drew {w : World} (h : Cube w) : Cube w.drew := ⟨h.at_⟩
theorem index_words (ws : List (BitVec 32)) (hl : ws.length = 64) (k : Nat) (hk : k < 64) (w : World) :
    (Instr.index 201 (.agg (words ws).toArray) (.int .i64 k)).run Tryz.prog w = .ok (.int .u32 (u (ws.getD k 0#32))) w := by
  have hc : (words ws).toArray[k]? = some (.int .u32 (u (ws.getD k 0#32))) := by
    rw [List.getElem?_toArray, get_words _ _ (by omega)]
  have h1 : (Go.part 76 (words ws).toArray k).run Tryz.prog w = .ok (.int .u32 (u (ws.getD k 0#32))) w := by
    simp only [Go.part, isAgg, Sem.run_bind, run_underlying Tryz.underlying76, Result.andThen_ok, Sem.run_pure, hc]
    rfl
  simp [Instr.index, asIntOf, run_underlying Tryz.underlying201, hk, h1]
theorem size8 : (Tryz.prog.info? 172).map (·.size) = some 8 := by kernel_rfl
theorem blk0 (w : World) (A B C : Obj) : (((w.alloc A).alloc B).alloc C).heap[w.heap.size]? = some A := by
  have s1 : (w.alloc A).heap.size = w.heap.size + 1 := World.size_alloc _ _
  have s2 : ((w.alloc A).alloc B).heap.size = w.heap.size + 1 + 1 := by rw [World.size_alloc, s1]
  rw [Go.heap_alloc_old _ _ (by omega), Go.heap_alloc_old _ _ (by omega), Go.heap_alloc_new]
theorem blk3 (w : World) (A B C D : Obj) : ((((w.alloc A).alloc B).alloc C).alloc D).heap[w.heap.size + 1 + 1 + 1]? = some D := by
  have s1 : (w.alloc A).heap.size = w.heap.size + 1 := World.size_alloc _ _
  have s2 : ((w.alloc A).alloc B).heap.size = w.heap.size + 1 + 1 := by rw [World.size_alloc, s1]
  have s3 : (((w.alloc A).alloc B).alloc C).heap.size = w.heap.size + 1 + 1 + 1 := by rw [World.size_alloc, s2]
  rw [← s3, Go.heap_alloc_new]
/-- Four blocks made one behind the other, and the last one written whole. -/
theorem rows4 {w w1 : World} {A B C D : List Value} {old : Array Value} {tA tB tC tD : TypeId} (h : World.setRow ((((w.alloc (.cells A.toArray tA)).alloc (.cells B.toArray tB)).alloc (.cells C.toArray tC)).alloc (.cells old tD)) (w.heap.size + 1 + 1 + 1) D.toArray = w1) :
    Row w1 w.heap.size tA A ∧ Row w1 (w.heap.size + 1) tB B ∧ Row w1 (w.heap.size + 1 + 1) tC C ∧ Row w1 (w.heap.size + 1 + 1 + 1) tD D ∧ Below w.heap.size w w1 ∧ w1.heap.size = w.heap.size + 1 + 1 + 1 + 1 := by
  obtain ⟨r0, r1, r2, hb, hs⟩ := rows3 (w := w) (A := A) (B := B) (C := C) (tA := tA) (tB := tB) (tC := tC) rfl
  generalize ((w.alloc (.cells A.toArray tA)).alloc (.cells B.toArray tB)).alloc (.cells C.toArray tC) = w3 at *
  have e : w.heap.size + 1 + 1 + 1 = w3.heap.size := hs.symm
  rw [e] at h ⊢
  have h4 := row_new_set h
  have z1 := r0.lt
  have z2 := r1.lt
  have z3 := r2.lt
  refine ⟨r0.later h4.2 z1, r1.later h4.2 z2, r2.later h4.2 z3, h4.1, hb.trans (h4.2.mono hb.size), ?_⟩
  rw [← h]; simp
/-- The first k of one list, and what stands behind k of another one. -/
def mixL (A B : List (BitVec 32)) (k : Nat) : List (BitVec 32) := A.take k ++ B.drop k
theorem length_mixL (A B : List (BitVec 32)) (k : Nat) (hA : A.length = 8) (hB : B.length = 8) : (mixL A B k).length = 8 := by
  unfold mixL; rw [List.length_append, List.length_take, List.length_drop]; omega
theorem mixL_get (A B : List (BitVec 32)) (k : Nat) (hA : A.length = 8) (_ : B.length = 8) (hk : k < 8) : (mixL A B k).getD k 0#32 = B.getD k 0#32 := by
  unfold mixL
  rw [List.getD_eq_getElem?_getD, List.getElem?_append_right (by rw [List.length_take]; omega), List.length_take, List.getElem?_drop, show k + (k - min k A.length) = k by omega, ← List.getD_eq_getElem?_getD]
theorem mixL_set (A B : List (BitVec 32)) (k : Nat) (hA : A.length = 8) (hB : B.length = 8) (hk : k < 8) : (words (mixL A B k)).set k (.int .u32 (u (A.getD k 0#32))) = words (mixL A B (k + 1)) := by
  unfold words
  rw [← List.map_set (f := fun x => Value.int .u32 (u x))]
  congr 1
  unfold mixL
  rw [List.set_append_right _ _ (by rw [List.length_take]; omega), List.length_take, show k - min k A.length = 0 by omega]
  obtain ⟨x, r, hr⟩ : ∃ x r, B.drop k = x :: r := by
    cases h : B.drop k with
    | nil => have := congrArg List.length h; rw [List.length_drop] at this; simp at this; omega
    | cons x r => exact ⟨x, r, rfl⟩
  have hr' : B.drop (k + 1) = r := by rw [← List.drop_drop, hr]; rfl
  rw [hr, List.set_cons_zero, hr', List.take_add_one, List.append_assoc]
  simp [show k < A.length by omega]
theorem addS_get (st s : St) (i : Nat) (hi : i < 8) : (addS st s).list.getD i 0#32 = st.list.getD i 0#32 + s.list.getD i 0#32 := by
  rcases (by omega : i = 0 ∨ i = 1 ∨ i = 2 ∨ i = 3 ∨ i = 4 ∨ i = 5 ∨ i = 6 ∨ i = 7) with rfl | rfl | rfl | rfl | rfl | rfl | rfl | rfl <;> rfl
theorem row_set_far {w : World} {g g' : Nat} {t : TypeId} {xs : List Value} (h : Row w g t xs) (cs : Array Value) (hne : g ≠ g') : Row (w.setRow g' cs) g t xs := by
  unfold Row at h ⊢
  rw [setRow_other _ _ _ _ hne]; exact h
set_option maxHeartbeats 2000000 in
theorem compress_any (l : List UInt8) (hl : l.length = 64) (s : St) (w : World) (hT : Cube w) :
    Calls Tryz.prog 125 #[.agg (words s.list).toArray, .agg (byts l).toArray] w fun e w' => e = .returned (.agg (words (compS l s).list).toArray) ∧ Below w.heap.size w w' := by
  obtain ⟨ws, hws⟩ : ∃ ws, ws = sched l 64 := ⟨_, rfl⟩
  have hlen : ws.length = 64 := by rw [hws, length_sched]
  have HWS := Lib.hid hws
  clear hws
  have hszb := Lib.hid (show (Tryz.prog.info? 130).map (·.size) = some (byts l).toArray.size by rw [size64b, List.size_toArray, length_byts, hl])
  obtain ⟨xs, hxs⟩ : ∃ xs, xs = words s.list := ⟨_, rfl⟩
  have hxl : xs.length = 8 := by rw [hxs, length_words]; rfl
  have hone := Lib.hid (show xs.toArray.all (·.oneCell') = true from by rw [hxs]; exact all_one (words_one s.list))
  have hsz8 := Lib.hid (show (Tryz.prog.info? 172).map (·.size) = some xs.toArray.size by rw [size8, List.size_toArray, hxl])
  have h88 := Lib.hid (show 8 = xs.toArray.size by rw [List.size_toArray, hxl])
  rw [← hxs]
  have HXS := Lib.hid hxs
  clear hxs hxl
  go_enter Tryz.func125, Tryz.ntmps125
  go_wp2_with (first
    | (with_reducible refine wpList_load_row rfl 172 (.tmp 2) rfl w.heap.size rfl 172 xs.toArray (0, 0) (.array 8 76) (blk0 w _ _ _) Tryz.underlying172 rfl hsz8.out ?_)
    | (with_reducible refine wpList_store_row rfl 172 (.tmp 5) (.tmp 11) rfl (w.heap.size + 1 + 1 + 1) xs.toArray rfl rfl 172 _ (blk3 w _ _ _ _) hsz8.out (Eq.trans (by kernel_rfl) h88.out) hone.out ?_; refine Hid.out ?_))
  refine Lib.hid ?_
  generalize hw1 : World.setRow (World.alloc (World.alloc (World.alloc (World.alloc w _) _) _) _) _ _ = w1
  obtain ⟨q0, q1, q2, q3, hb1, hs1⟩ := rows4 (A := xs) (B := byts l) (C := List.replicate 8 (.int .u32 0)) (D := xs) hw1
  have Q1 := Lib.hid (show w1.heap[w.heap.size + 1]? = some (.cells (byts l).toArray 130 (0, 0)) from q1)
  clear hw1
  go_wp2_with (first
    | (with_reducible refine wpList_load_row rfl 130 (.tmp 3) rfl (w.heap.size + 1) rfl 130 (byts l).toArray (0, 0) (.array 64 5) Q1.out Tryz.underlying130 rfl hszb.out ?_)
    | (go_at_call 163; refine (schedule_any l hl _).mono ?_; rintro e w2 ⟨rfl, hb2⟩; rw [← HWS.out]))
  have p0 := q0.later hb2 q0.lt
  have p2 := q2.later hb2 q2.lt
  have p3 := q3.later hb2 q3.lt
  have hbA := hb1.trans (hb2.mono hb1.size)
  have hne0 : w.heap.size ≠ w.heap.size + 1 + 1 + 1 := by omega
  have hne2 : w.heap.size + 1 + 1 ≠ w.heap.size + 1 + 1 + 1 := by omega
  have hle3 : w.heap.size ≤ w.heap.size + 1 + 1 + 1 := by omega
  clear q0 q1 q2 q3 hb1 hb2 Q1 hs1 hszb
  go_loopw [14] (fun i wr => ∃ k : Nat, k ≤ 64 ∧ i = .int .i64 k ∧ Row wr w.heap.size 172 xs ∧ Row wr (w.heap.size + 1 + 1) 172 (List.replicate 8 (.int .u32 0)) ∧ Row wr (w.heap.size + 1 + 1 + 1) 172 (words (roundsS ws s k).list) ∧ Below w.heap.size w wr) (fun i _ => 64 - (intOf i).toNat)
  case atStart => exact ⟨0, by omega, rfl, p0, p2, by rw [HXS.out] at p3; exact p3, hbA⟩
  case round =>
    clear p0 p2 p3 hbA
    obtain ⟨k, hk, rfl, p0, p2, p3, hb⟩ := hrel
    by_cases hlt : k < 64
    · have hix := index_words ws hlen k hlt
      have HR := Lib.hid (show roundsS ws s (k + 1) = roundS (roundsS ws s k) (primeW k) (ws.getD k 0#32) from rfl)
      have hC := hT.later hb (Nat.le_refl _)
      generalize ws.getD k 0#32 = x at *
      generalize roundsS ws s k = st at *
      obtain ⟨a, b, c, d, e, f, g, h⟩ := st
      go_wp2_with fail
      have hl3 := Lib.hid (show wr.drew.drew.heap[w.heap.size + 1 + 1 + 1]? = some (.cells (words (St.list ⟨a, b, c, d, e, f, g, h⟩)).toArray 172 (0, 0)) from p3)
      have c0 : wr.cell? ⟨w.heap.size + 1 + 1 + 1, 0, none⟩ = some (.int .u32 (u a)) := p3.cell 0
      have c1 : wr.cell? ⟨w.heap.size + 1 + 1 + 1, 1, none⟩ = some (.int .u32 (u b)) := p3.cell 1
      have c2 : wr.cell? ⟨w.heap.size + 1 + 1 + 1, 2, none⟩ = some (.int .u32 (u c)) := p3.cell 2
      have c3 : wr.cell? ⟨w.heap.size + 1 + 1 + 1, 3, none⟩ = some (.int .u32 (u d)) := p3.cell 3
      have c4 : wr.cell? ⟨w.heap.size + 1 + 1 + 1, 4, none⟩ = some (.int .u32 (u e)) := p3.cell 4
      have c5 : wr.cell? ⟨w.heap.size + 1 + 1 + 1, 5, none⟩ = some (.int .u32 (u f)) := p3.cell 5
      have c6 : wr.cell? ⟨w.heap.size + 1 + 1 + 1, 6, none⟩ = some (.int .u32 (u g)) := p3.cell 6
      have c7 : wr.cell? ⟨w.heap.size + 1 + 1 + 1, 7, none⟩ = some (.int .u32 (u h)) := p3.cell 7
      refine wp_region_noPanic ?_
      refine wp_region_held_drew (S := fun w' => w' = wr.drew) (by kernel_rfl) (rfl) (fun hHeld => ?_)
      refine rt 0 18 rfl ?_ (hy := by intro w hS; subst hS; go_simp; try with_reducible rfl)
      refine rt 2 20 rfl ?_ (hy := by intro w hS; subst hS; go_simp; try with_reducible rfl)
      refine rt 6 24 rfl ?_ (hy := by intro w hS; subst hS; go_simp; try with_reducible rfl)
      refine rt 8 26 rfl ?_ (hy := by intro w hS; subst hS; go_simp; try with_reducible rfl)
      refine rt 10 28 rfl ?_ (hy := by intro w hS; subst hS; go_simp; try with_reducible rfl)
      refine rt 14 32 rfl ?_ (hy := by intro w hS; subst hS; go_simp; try with_reducible rfl)
      refine rt 17 35 rfl ?_ (hy := by intro w hS; subst hS; go_simp; try with_reducible rfl)
      refine rt 1 19 rfl ?_ (hy := by intro w hS; subst hS; go_simp; try with_reducible rfl)
      refine rt 3 21 rfl ?_ (hy := by intro w hS; subst hS; go_simp; try with_reducible rfl)
      refine rt 7 25 rfl ?_ (hy := by intro w hS; subst hS; go_simp; try with_reducible rfl)
      refine rt 9 27 rfl ?_ (hy := by intro w hS; subst hS; go_simp; try with_reducible rfl)
      refine rt 11 29 rfl ?_ (hy := by intro w hS; subst hS; go_simp; try with_reducible rfl)
      refine wpAnyH_ready (rs := [4]) (by kernel_rfl) (by simp) (AllReadyH.cons (o := _) rfl (fun K hK => ?_) AllReadyH.nil)
      go_simp
      refine (great_any _ _ _).mono ?_; rintro e w' ⟨rfl, rfl⟩
      try go_wp2_with fail
      refine hK.out _ _ rfl (fun _ => ?_)
      clear hK K
      try (rw [put_some]; dsimp only [List.set])
      refine rt 5 23 rfl ?_ (hy := by intro w hS; subst hS; go_simp; try with_reducible rfl)
      refine wpAnyH_ready (rs := [12]) (by kernel_rfl) (by simp) (AllReadyH.cons (o := _) rfl (fun K hK => ?_) AllReadyH.nil)
      go_simp
      refine (choose_any _ _ _ _).mono ?_; rintro e w' ⟨rfl, rfl⟩
      try go_wp2_with fail
      refine hK.out _ _ rfl (fun _ => ?_)
      clear hK K
      try (rw [put_some]; dsimp only [List.set])
      refine rt 13 31 rfl ?_ (hy := by intro w hS; subst hS; go_simp; try with_reducible rfl)
      refine wpAnyH_ready (rs := [15]) (by kernel_rfl) (by simp) (AllReadyH.cons (o := _) rfl (fun K hK => ?_) AllReadyH.nil)
      go_simp
      refine (prime_at_any k _ (cube_drew hC) hlt).mono ?_; rintro e w' ⟨rfl, rfl⟩
      try go_wp2_with fail
      refine hK.out _ _ rfl (fun _ => ?_)
      clear hK K
      try (rw [put_some]; dsimp only [List.set])
      refine rt 16 34 rfl ?_ (hy := by intro w hS; subst hS; go_simp; try with_reducible rfl)
      refine rt 18 36 rfl ?_ (hy := by intro w hS; subst hS; go_simp; try with_reducible rfl)
      refine rt 19 8 rfl ?_ (hy := by intro w hS; subst hS; go_simp; try with_reducible rfl)
      refine wpAnyH_done (by kernel_rfl) ?_ _
      refine NoPanic.normal ?_
      go_wp2_with fail
      generalize ht1 : h + great 1 e + uchoose e f g + primeW k + x = t1
      refine wp_region_noPanic ?_
      refine wp_region_held_drew (S := fun w' => w' = wr.drew.drew) (by kernel_rfl) (rfl) (fun hHeld => ?_)
      refine rt 0 37 rfl ?_ (hy := by intro w hS; subst hS; go_simp; try with_reducible rfl)
      refine rt 3 40 rfl ?_ (hy := by intro w hS; subst hS; go_simp; try with_reducible rfl)
      refine rt 5 42 rfl ?_ (hy := by intro w hS; subst hS; go_simp; try with_reducible rfl)
      refine rt 7 44 rfl ?_ (hy := by intro w hS; subst hS; go_simp; try with_reducible rfl)
      refine rt 1 38 rfl ?_ (hy := by intro w hS; subst hS; go_simp; try with_reducible rfl)
      refine rt 4 41 rfl ?_ (hy := by intro w hS; subst hS; go_simp; try with_reducible rfl)
      refine rt 6 43 rfl ?_ (hy := by intro w hS; subst hS; go_simp; try with_reducible rfl)
      refine rt 8 45 rfl ?_ (hy := by intro w hS; subst hS; go_simp; try with_reducible rfl)
      refine wpAnyH_ready (rs := [2]) (by kernel_rfl) (by simp) (AllReadyH.cons (o := _) rfl (fun K hK => ?_) AllReadyH.nil)
      go_simp
      refine (great_any _ _ _).mono ?_; rintro e w' ⟨rfl, rfl⟩
      try go_wp2_with fail
      refine hK.out _ _ rfl (fun _ => ?_)
      clear hK K
      try (rw [put_some]; dsimp only [List.set])
      refine wpAnyH_ready (rs := [9]) (by kernel_rfl) (by simp) (AllReadyH.cons (o := _) rfl (fun K hK => ?_) AllReadyH.nil)
      go_simp
      refine (most_any _ _ _ _).mono ?_; rintro e w' ⟨rfl, rfl⟩
      try go_wp2_with fail
      refine hK.out _ _ rfl (fun _ => ?_)
      clear hK K
      try (rw [put_some]; dsimp only [List.set])
      refine rt 10 47 rfl ?_ (hy := by intro w hS; subst hS; go_simp; try with_reducible rfl)
      refine rt 11 9 rfl ?_ (hy := by intro w hS; subst hS; go_simp; try with_reducible rfl)
      refine wpAnyH_done (by kernel_rfl) ?_ _
      refine NoPanic.normal ?_
      generalize ht2 : great 0 a + umost a b c = t2
      go_wp2_with (with_reducible refine wpList_store_row rfl 172 (.tmp 5) (.tmp 67) rfl (w.heap.size + 1 + 1 + 1) _ rfl rfl 172 _ hl3.out (by kernel_rfl) (by kernel_rfl) (by kernel_rfl) ?_)
      clear c0 c1 c2 c3 c4 c5 c6 c7 hix hC hT
      go_roundw
      case rel =>
        refine ⟨k + 1, by omega, by go_num, row_set_far p0.drew.drew _ hne0, row_set_far p2.drew.drew _ hne2, ?_, below_setRow hb.drew.drew hle3 _⟩
        rw [HR.out]
        have h := setRow_heap wr.drew.drew (w.heap.size + 1 + 1 + 1) _ #[Value.int IntKind.u32 (u (t1 + t2)), Value.int IntKind.u32 (u a), Value.int IntKind.u32 (u b), Value.int IntKind.u32 (u c), Value.int IntKind.u32 (u (d + t1)), Value.int IntKind.u32 (u e), Value.int IntKind.u32 (u f), Value.int IntKind.u32 (u g)] 172 (0, 0) hl3.out
        unfold roundS
        simp only [ht1, ht2]
        exact h
      case measure => simp [intOf]; omega
    · have e64 : k = 64 := by omega
      rw [e64] at p3
      clear e64 hT
      generalize hst : roundsS ws s 64 = st at *
      go_wp2_with fail
      have HST := Lib.hid hst
      clear hst
      have hsl : s.list.length = 8 := rfl
      rw [show words st.list = words (mixL (addS st s).list st.list 0) from rfl] at p3
      go_loopw [69] (fun i wr => ∃ k : Nat, k ≤ 8 ∧ i = .int .i64 k ∧ Row wr w.heap.size 172 xs ∧ Row wr (w.heap.size + 1 + 1) 172 (List.replicate 8 (.int .u32 0)) ∧ Row wr (w.heap.size + 1 + 1 + 1) 172 (words (mixL (addS st s).list st.list k)) ∧ Below w.heap.size w wr) (fun i _ => 8 - (intOf i).toNat)
      case atStart => exact ⟨0, by omega, rfl, p0, p2, p3, hb⟩
      case round =>
        clear p0 p2 p3 hb
        obtain ⟨i, hi, rfl, p0, p2, p3, hb⟩ := hrel
        by_cases hlt8 : i < 8
        · go_wp2_with fail
          have c1 := (p3.drew.cell i).trans (get_words _ i (by rw [length_mixL _ _ _ rfl rfl]; exact hlt8))
          rw [mixL_get _ _ _ rfl rfl hlt8] at c1
          have p0' := p0
          rw [HXS.out] at p0'
          have c2 := (p0'.drew.cell i).trans (get_words _ i (by rw [hsl]; exact hlt8))
          have hsum := addS_get st s i hlt8
          have hset := mixL_set (addS st s).list st.list i rfl rfl hlt8
          have hf := p3.drew.free i
          generalize st.list.getD i 0#32 = y at *
          generalize s.list.getD i 0#32 = z at *
          have n8 : (i : Int) < 8 := by omega
          refine wp_region_noPanic ?_
          refine wp_region_held_drew (S := fun w' => w'.cell? ⟨w.heap.size, i, none⟩ = some (.int .u32 (u z))) (by kernel_rfl) (c2) (fun hHeld => ?_)
          refine rt 0 72 hHeld ?_
          refine rt 3 75 hHeld ?_
          refine rt 1 73 hHeld ?_
          refine rt 4 76 hHeld ?_
          refine rt 5 77 hHeld ?_
          refine wpAnyH_ready (rs := [2]) (by kernel_rfl) (by simp) (AllReadyH.cons (o := _) rfl (fun K hK => ?_) AllReadyH.nil)
          go_simp
          refine hK.out _ _ (hHeld) (fun _ => ?_)
          clear hK K
          try (rw [put_some]; dsimp only [List.set])
          refine rt 6 78 hHeld ?_
          refine rt 7 79 hHeld ?_
          refine wpAnyH_ready (rs := [8]) (by kernel_rfl) (by simp) (AllReadyH.cons (o := _) rfl (fun K hK => ?_) AllReadyH.nil)
          go_simp
          refine hK.out _ _ (by exact (World.cell?_setCell_far _ _ _ _ (fun e => hne0 e.symm)).trans c2) (fun _ => ?_)
          clear hK K
          try (rw [put_some]; dsimp only [List.set])
          refine wpAnyH_done (by kernel_rfl) ?_ _
          refine NoPanic.normal ?_
          go_wp2_with fail
          go_roundw
          case rel =>
            refine ⟨i + 1, by omega, by go_num, (p0.far _ _ hne0).drew, (p2.far _ _ hne2).drew, ?_, (hb.setCell hle3 _).drew⟩
            have h := (p3.set i (.int .u32 (u (y + z)))).drew
            rw [← hsum, hset, hsum] at h
            exact h
          case measure => simp [intOf]; omega
        · have e8 : i = 8 := by omega
          rw [e8] at p3
          have hz : mixL (addS st s).list st.list 8 = (addS st s).list := rfl
          rw [hz] at p3
          have R3 := Lib.hid (show wr.heap[w.heap.size + 1 + 1 + 1]? = some (.cells (words (addS st s).list).toArray 172 (0, 0)) from p3)
          have R2 := Lib.hid (show wr.heap[w.heap.size + 1 + 1]? = some (.cells (List.replicate 8 (Value.int .u32 0)).toArray 172 (0, 0)) from p2)
          have hszf := Lib.hid (show (Tryz.prog.info? 172).map (·.size) = some (words (addS st s).list).toArray.size by rw [size8]; rfl)
          have hszo := Lib.hid (show (List.replicate 8 (Value.int .u32 0)).toArray.size = (words (addS st s).list).toArray.size by rw [List.size_toArray, List.size_toArray, List.length_replicate, length_words]; rfl)
          have honf := Lib.hid (all_one (words_one (addS st s).list))
          have hcomp : compS l s = addS (roundsS ws s 64) s := by unfold compS; rw [HWS.out]
          rw [HST.out] at hcomp
          have hW : words (compS l s).list = words (addS st s).list := by rw [hcomp]
          generalize words (addS st s).list = W8 at *
          have HW := Lib.hid hW
          clear p0 p2 p3 hz hcomp hW e8 hsl
          go_wp2_with (first
            | (with_reducible refine wpList_load_row rfl 172 (.tmp 5) rfl (w.heap.size + 1 + 1 + 1) rfl 172 W8.toArray (0, 0) (.array 8 76) R3.out Tryz.underlying172 rfl hszf.out ?_)
            | (with_reducible refine wpList_store_row rfl 172 (.tmp 4) (.tmp 81) rfl (w.heap.size + 1 + 1) W8.toArray rfl rfl 172 _ R2.out hszf.out hszo.out honf.out ?_; have HG := Lib.hid (setRow_heap wr (w.heap.size + 1 + 1) _ W8.toArray 172 (0, 0) R2.out))
            | (with_reducible refine bodyPost_ret (results_cell_row rfl _ _ (w.heap.size + 1 + 1) 172 W8.toArray (0, 0) (.array 8 76) rfl HG.out Tryz.underlying172 rfl hszf.out) rfl ?_))
          exact ⟨by rw [HW.out], below_setRow hb (by omega) _⟩
end Go.Proofs.YtimdhdimhboboaaGreatDoor

/- LAYER 3: SHA-256 as a list function; a digest in memory; steps of regions on the middle of a block. -/
namespace Go.Proofs.YtimdhdimhboboaaGreatDoor
set_option maxRecDepth 100000
open Go Go.RowKit

/-! ### Lists -/
/-- The eight words with which it begins. -/
def S0 : St := ⟨1779033703#32, 3144134277#32, 1013904242#32, 2773480762#32, 1359893119#32, 2600822924#32, 528734635#32, 1541459225#32⟩
/-- The k-th 64 bytes. -/
def blkAt (l : List UInt8) (k : Nat) : List UInt8 := (l.drop (64 * k)).take 64
/-- The eight words behind k blocks. -/
def stK (l : List UInt8) : Nat → St
  | 0 => S0
  | k + 1 => compS (blkAt l k) (stK l k)
theorem length_blkAt (l : List UInt8) (k : Nat) (h : 64 * (k + 1) ≤ l.length) : (blkAt l k).length = 64 := by
  unfold blkAt; rw [List.length_take, List.length_drop]; omega
theorem blkAt_append (l m : List UInt8) (k : Nat) (h : 64 * (k + 1) ≤ l.length) : blkAt (l ++ m) k = blkAt l k := by
  unfold blkAt
  rw [List.drop_append_of_le_length (by omega), List.take_append_of_le_length (by rw [List.length_drop]; omega)]
theorem stK_append (l m : List UInt8) (k : Nat) (h : 64 * k ≤ l.length) : stK (l ++ m) k = stK l k := by
  induction k with
  | zero => rfl
  | succ k ih => rw [stK, stK, ih (by omega), blkAt_append l m k h]
/-- All eight words behind the blocks of a message that is padded already. -/
def shaS (l : List UInt8) : St := stK (l ++ padL l.length) ((l.length + (padL l.length).length) / 64)
def wordsB (s : List (BitVec 32)) : List UInt8 := s.flatMap bytesL
/-- SHA-256. -/
def shaL (l : List UInt8) : List UInt8 := wordsB (shaS l).list
theorem length_shaL (l : List UInt8) : (shaL l).length = 32 := rfl
theorem padded_mod (l : List UInt8) : (l.length + (padL l.length).length) % 64 = 0 := by
  rw [length_padL]; unfold noughts; omega

/-! ### A digest -/
/-- The open block holds what is behind the full ones. -/
def Opn (l o : List UInt8) : Prop := o.length = 64 ∧ o.take (l.length % 64) = l.drop (64 * (l.length / 64))
def digV (s : St) (o : List UInt8) (m : Nat) : List Value := words s.list ++ (byts o ++ [.int .u64 m])
/-- Block g is a digest to which l was written. -/
def Dgt (w : World) (g : Nat) (l : List UInt8) : Prop := 2 < g ∧ ∃ o, Opn l o ∧ Row w g 174 (digV (stK l (l.length / 64)) o l.length)
theorem opn_nil : Opn [] (List.replicate 64 0) := ⟨by simp, by simp⟩
theorem splice_take {o c : List UInt8} {r : Nat} (hr : r ≤ o.length) : (splice o r c).take (r + c.length) = o.take r ++ c := by
  unfold splice
  rw [← List.append_assoc, List.take_append_of_le_length (by rw [List.length_append, List.length_take]; omega), List.take_of_length_le (by rw [List.length_append, List.length_take]; omega)]
theorem opn_take {l o : List UInt8} (c : List UInt8) (h : Opn l o) : (splice o (l.length % 64) c).take (l.length % 64 + c.length) = (l ++ c).drop (64 * (l.length / 64)) := by
  rw [splice_take (by rw [h.1]; omega), h.2, List.drop_append_of_le_length (by omega)]
theorem opn_more {l o c : List UInt8} (h : Opn l o) (hc : l.length % 64 + c.length < 64) :
    Opn (l ++ c) (splice o (l.length % 64) c) ∧ stK (l ++ c) ((l ++ c).length / 64) = stK l (l.length / 64) := by
  have e1 : (l ++ c).length / 64 = l.length / 64 := by rw [List.length_append]; omega
  have e2 : (l ++ c).length % 64 = l.length % 64 + c.length := by rw [List.length_append]; omega
  refine ⟨⟨by rw [length_splice _ _ _ (by rw [h.1]; omega), h.1], ?_⟩, ?_⟩
  · rw [e1, e2, opn_take c h]
  · rw [e1, stK_append _ _ _ (by omega)]
theorem opn_full {l o c : List UInt8} (h : Opn l o) (hc : l.length % 64 + c.length = 64) :
    Opn (l ++ c) (splice o (l.length % 64) c) ∧ stK (l ++ c) ((l ++ c).length / 64) = compS (splice o (l.length % 64) c) (stK l (l.length / 64)) := by
  have e1 : (l ++ c).length / 64 = l.length / 64 + 1 := by rw [List.length_append]; omega
  have e2 : (l ++ c).length % 64 = 0 := by rw [List.length_append]; omega
  have hl : (splice o (l.length % 64) c).length = 64 := by rw [length_splice _ _ _ (by rw [h.1]; omega), h.1]
  have hd : (l ++ c).drop (64 * (l.length / 64)) = splice o (l.length % 64) c := by
    rw [← opn_take c h, List.take_of_length_le (by rw [hl]; omega)]
  refine ⟨⟨hl, ?_⟩, ?_⟩
  · rw [e1, e2, List.take_zero, List.drop_of_length_le (by rw [List.length_append]; omega)]
  · rw [e1, stK, blkAt, hd, List.take_of_length_le (by rw [hl]; exact Nat.le_refl _), stK_append _ _ _ (by omega)]

/-! ### The cells of a digest -/
theorem length_list (s : St) : s.list.length = 8 := rfl
theorem length_digV (s : St) (o : List UInt8) (m : Nat) (ho : o.length = 64) : (digV s o m).length = 73 := by
  unfold digV; simp [length_words, length_byts, ho, length_list]
theorem digV_many (s : St) (o : List UInt8) (m : Nat) (ho : o.length = 64) : (digV s o m)[72]? = some (.int .u64 m) := by
  unfold digV
  rw [List.getElem?_append_right (by rw [length_words, length_list]; omega), List.getElem?_append_right (by rw [length_words, length_byts, length_list]; omega)]
  simp [length_words, length_byts, ho, length_list]
theorem digV_set (s : St) (o : List UInt8) (m n : Nat) (ho : o.length = 64) : (digV s o m).set 72 (.int .u64 n) = digV s o n := by
  unfold digV
  rw [List.set_append_right _ _ (by rw [length_words, length_list]; omega), List.set_append_right _ _ (by rw [length_words, length_byts, length_list]; omega)]
  simp [length_words, length_byts, ho, length_list]
theorem splice_mid {α : Type} (A B C D : List α) (r : Nat) (h : r + D.length ≤ B.length) : splice (A ++ (B ++ C)) (A.length + r) D = A ++ (splice B r D ++ C) := by
  unfold splice
  rw [List.take_length_add_append, List.take_append_of_le_length (by omega), Nat.add_assoc, List.drop_length_add_append, List.drop_append_of_le_length h]
  simp
theorem byts_splice (o c : List UInt8) (r : Nat) : byts (splice o r c) = splice (byts o) r (byts c) := by
  unfold splice
  rw [byts_append, byts_append, length_byts]
  unfold byts; rw [List.map_take, List.map_drop]
theorem digV_copy (s : St) (o c : List UInt8) (m r : Nat) (ho : o.length = 64) (h : r + c.length ≤ 64) : splice (digV s o m) (8 + r) (byts c) = digV s (splice o r c) m := by
  unfold digV
  have := splice_mid (words s.list) (byts o) [.int .u64 m] (byts c) r (by rw [length_byts, length_byts]; omega)
  rw [length_words, length_list] at this
  rw [this, byts_splice]
theorem digV_words (s t : St) (o : List UInt8) (m : Nat) : splice (digV s o m) 0 (words t.list) = digV t o m := by
  unfold digV splice
  rw [List.take_zero, List.nil_append, Nat.zero_add, length_words, length_list]
  congr 1
theorem digV_range0 {w : World} {g : Nat} {t : TypeId} {s : St} {o : List UInt8} {m : Nat} (h : Row w g t (digV s o m)) : w.rangeAt g 0 (words s.list) :=
  range_of_row (A := []) h
theorem digV_range8 {w : World} {g : Nat} {t : TypeId} {s : St} {o : List UInt8} {m : Nat} (h : Row w g t (digV s o m)) : w.rangeAt g 8 (byts o) := by
  have := range_of_row (A := words s.list) h
  rwa [length_words, length_list] at this

/-! ### One block alone is written -/
theorem Dgt.lt {w : World} {g : Nat} {l : List UInt8} (h : Dgt w g l) : g < w.heap.size := by
  obtain ⟨_, o, _, h⟩ := h; exact h.lt
theorem Dgt.later {w w' : World} {g : Nat} {l : List UInt8} {B : Nat} (h : Dgt w g l) (hb : Below B w w') (hg : g < B) : Dgt w' g l := by
  obtain ⟨hq, o, ho, h⟩ := h; exact ⟨hq, o, ho, h.later hb hg⟩
theorem Dgt.grown {w w' : World} {g k : Nat} {l : List UInt8} (h : Dgt w g l) (hg : w.grownBy w' (some k)) (hne : g ≠ k) : Dgt w' g l := by
  obtain ⟨hq, o, ho, h⟩ := h; exact ⟨hq, o, ho, h.grown hg hne⟩
theorem Dgt.many {w : World} {g : Nat} {l : List UInt8} (h : Dgt w g l) : w.cell? ⟨g, 72, none⟩ = some (.int .u64 l.length) := by
  obtain ⟨_, o, ho, h⟩ := h
  exact (h.cell 72).trans (digV_many _ _ _ ho.1)
/-- Behind a whole number of blocks the words are what they came to. -/
theorem Dgt.range {w : World} {g : Nat} {l : List UInt8} (h : Dgt w g (l ++ padL l.length)) : w.rangeAt g 0 (words (shaS l).list) := by
  obtain ⟨_, o, _, h⟩ := h
  rw [List.length_append] at h
  exact digV_range0 h
theorem Cube.grown {w w' : World} {k : Nat} (h : Cube w) (hg : w.grownBy w' (some k)) (hne : 2 < k) : Cube w' :=
  ⟨fun i hi => by rw [World.cell?_of_block (w := w) (hg.block 2 h.size (fun e => by have := Option.some.inj e; omega))]; exact h.at_ i hi⟩
theorem blkAt_cut (l : List UInt8) (k : Nat) : (byts l).drop (64 * k) = byts (blkAt l k) ++ byts (l.drop (64 * k + 64)) := by
  rw [← byts_append]
  unfold blkAt byts
  rw [← List.drop_drop, List.take_append_drop, List.map_drop]
end Go.Proofs.YtimdhdimhboboaaGreatDoor

/- LAYER 3: package digest's New, Clone, Len. -/
namespace Go.Proofs.YtimdhdimhboboaaGreatDoor
set_option maxRecDepth 100000
open Go Go.RowKit

/-- The call gave a digest of its own to which l was written; what was there before is as it was. -/
def GaveDig (l : List UInt8) (w : World) (e : Ending) (w' : World) : Prop :=
  ∃ g, e = .returned (.pointer (some ⟨g, 0, none⟩)) ∧ w.heap.size ≤ g ∧ Dgt w' g l ∧ Below w.heap.size w w'
theorem size_dig : (Tryz.prog.info? 174).map (·.size) = some 73 := by kernel_rfl
theorem build_dig (w : World) : (Instr.build 174 #[(0, startV)]).run Tryz.prog w = .ok (.agg (digV S0 (List.replicate 64 0) 0).toArray) w := by kernel_rfl
theorem wpList_build1 {P : Program} {w : World} {ops : Array Oper} {rest : List Oper} {o : Oper} {a : Act} {Q : Exit → Act → World → Prop} (hgd : o.guard = none) (t : TypeId) (x : Operand) (ho : o.op = .build t #[(0, x)])
    (v r : Value) (hx : a.eval x = v) (hrun : (Instr.build t #[(0, v)]).run P w = .ok r w) (h : wpList P ops Q rest (a.put o.dst r) w) : wpList P ops Q (o :: rest) a w := by
  refine wpList_plain hgd fun K hK => ?_
  unfold Oper.wp execOp
  simp only [ho, Sem.run_bind, Sem.run_pure, List.map_toArray, List.map_cons, List.map_nil, hx, hrun, Result.andThen_ok]
  exact hK _ _ h
theorem new_any (w : World) (hT : Tabs w) :
    Calls Tryz.prog 124 #[] w (GaveDig [] w) := by
  have hb := Lib.hid build_dig
  obtain ⟨V, hV⟩ : ∃ V, V = digV S0 (List.replicate 64 0) 0 := ⟨_, rfl⟩
  rw [← hV] at hb
  have HV := Lib.hid hV
  clear hV
  go_enter Tryz.func124, Tryz.ntmps124
  go_wp2_with (first
    | (go_at_call 162; refine (start_any _ hT.sq).mono ?_; rintro e w1 ⟨rfl, hbel⟩)
    | (with_reducible refine wpList_build1 rfl 174 (.tmp 1) rfl startV _ rfl (hb.out _) ?_))
  go_ret
  refine ⟨w1.heap.size, rfl, hbel.size, ⟨Nat.lt_of_lt_of_le hT.cu.size hbel.size, List.replicate 64 0, opn_nil, ?_⟩, hbel.alloc hbel.size _⟩
  have := Row.new w1 174 V
  rw [HV.out] at this ⊢
  exact this
theorem dig_one (s : St) (o : List UInt8) (m : Nat) : ∀ v ∈ digV s o m, v.oneCell' = true := by
  intro v hv
  unfold digV at hv
  rcases List.mem_append.1 hv with h | h
  · exact words_one _ v h
  · rcases List.mem_append.1 h with h | h
    · exact byts_one _ v h
    · rw [List.mem_singleton] at h; subst h; rfl
theorem zero_dig (w : World) : (zeroValue 174).run Tryz.prog w = .ok (.agg (digV ⟨0#32, 0#32, 0#32, 0#32, 0#32, 0#32, 0#32, 0#32⟩ (List.replicate 64 0) 0).toArray) w := by kernel_rfl
theorem clone_any (g : Nat) (l : List UInt8) (w : World) (hd : Dgt w g l) :
    Calls Tryz.prog 90 #[.pointer (some ⟨g, 0, none⟩)] w (GaveDig l w) := by
  obtain ⟨hq, o, ho, hr⟩ := hd
  obtain ⟨V, hV⟩ : ∃ V, V = digV (stK l (l.length / 64)) o l.length := ⟨_, rfl⟩
  rw [← hV] at hr
  have hl : V.length = 73 := by rw [hV, length_digV _ _ _ ho.1]
  have R := Lib.hid (show w.heap[g]? = some (.cells V.toArray 174 (0, 0)) from hr)
  have hsz := Lib.hid (show (Tryz.prog.info? 174).map (·.size) = some V.toArray.size by rw [size_dig, List.size_toArray, hl])
  have h73 := Lib.hid (show 73 = V.toArray.size by rw [List.size_toArray, hl])
  have hone := Lib.hid (all_one (show ∀ v ∈ V, v.oneCell' = true by rw [hV]; exact dig_one _ _ _))
  have HV := Lib.hid hV
  obtain ⟨Z, hZl, hZ⟩ : ∃ Z : Array Value, Z.size = 73 ∧ ∀ w, (zeroValue 174).run Tryz.prog w = .ok (.agg Z) w := ⟨_, by rw [List.size_toArray, length_digV _ _ _ (by simp)], zero_dig⟩
  have HZ := Lib.hid (hZl.trans h73.out)
  have hlt := hr.lt
  clear hV hl hr hZl
  go_enter Tryz.func90, Tryz.ntmps90
  go_wp2_with (first
    | (with_reducible refine wpList_load_row rfl 174 (.tmp 5) rfl g rfl 174 V.toArray (0, 0) _ R.out Tryz.underlying174 rfl hsz.out ?_)
    | (with_reducible refine wpList_store_row rfl 174 (.tmp 3) (.tmp 6) rfl w.heap.size V.toArray rfl rfl 174 _ (heap_alloc_new w _) hsz.out HZ.out hone.out ?_; refine Hid.out ?_))
  refine Lib.hid ?_
  generalize hw1 : World.setRow _ _ _ = w1
  obtain ⟨r1, hb1⟩ := row_new_set (xs := V) hw1
  clear hw1 hZ
  go_wp2
  go_ret
  refine ⟨w.heap.size, rfl, Nat.le_refl _, ⟨Nat.lt_trans hq hlt, o, ho, ?_⟩, hb1⟩
  rw [← HV.out]; exact r1
end Go.Proofs.YtimdhdimhboboaaGreatDoor
