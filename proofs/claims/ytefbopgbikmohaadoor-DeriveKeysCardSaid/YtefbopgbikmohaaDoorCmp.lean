/- LAYER 2: eight words, and a block: package block's Compress. -/
import Derived.Test.YtefbopgbikmohaaDoorSch
namespace Go.Proofs.YtefbopgbikmohaaDoor
open Go.RowKit

/-- The eight words. -/
structure St where
  a : BitVec 32
  b : BitVec 32
  c : BitVec 32
  d : BitVec 32
  e : BitVec 32
  f : BitVec 32
  g : BitVec 32
  h : BitVec 32
def St.list (s : St) : List (BitVec 32) := [s.a, s.b, s.c, s.d, s.e, s.f, s.g, s.h]
def roundS (s : St) (k w : BitVec 32) : St :=
  ⟨s.h + great 1 s.e + uchoose s.e s.f s.g + k + w + (great 0 s.a + umost s.a s.b s.c), s.a, s.b, s.c, s.d + (s.h + great 1 s.e + uchoose s.e s.f s.g + k + w), s.e, s.f, s.g⟩
/-- The number of the i-th prime's root, as a word. -/
def primeW (i : Nat) : BitVec 32 := BitVec.ofNat 32 (cubeT.getD i 0).toNat
theorem primeW_all : (List.range 64).all (fun i => decide (u (primeW i) = cubeT.getD i 0)) = true := by decide +kernel
theorem u_primeW (i : Nat) (h : i < 64) : u (primeW i) = cubeT.getD i 0 := by
  have := List.all_eq_true.1 primeW_all i (by simpa using h)
  simpa using this
theorem prime_at_any (k : Nat) (w : World) (hT : Cube w) (hk : k < 64) :
    Calls Tryd.prog 42 #[.int .i64 k] w fun e w' => e = .returned (.int .u32 (u (primeW k))) ∧ w = w' := by
  refine (prime_any k w hT (by omega)).mono ?_
  rintro e w' ⟨rfl, rfl⟩
  refine ⟨?_, rfl⟩
  rw [u_primeW k hk]
  unfold primeV
  rw [if_pos (by omega), Int.toNat_natCast]
/-- The eight words behind k rounds. -/
def roundsS (ws : List (BitVec 32)) (s : St) : Nat → St
  | 0 => s
  | k + 1 => roundS (roundsS ws s k) (primeW k) (ws.getD k 0#32)
def addS (s t : St) : St := ⟨s.a + t.a, s.b + t.b, s.c + t.c, s.d + t.d, s.e + t.e, s.f + t.f, s.g + t.g, s.h + t.h⟩
/-- What the eight words become by a block. -/
def compS (l : List UInt8) (s : St) : St := addS (roundsS (sched l 64) s 64) s
theorem cube_drew {w : World} (h : Cube w) : Cube w.drew := ⟨h.at_⟩
theorem index_words (ws : List (BitVec 32)) (hl : ws.length = 64) (k : Nat) (hk : k < 64) (w : World) :
    (Instr.index 68 (.agg (words ws).toArray) (.int .i64 k)).run Tryd.prog w = .ok (.int .u32 (u (ws.getD k 0#32))) w := by
  have hc : (words ws).toArray[k]? = some (.int .u32 (u (ws.getD k 0#32))) := by
    rw [List.getElem?_toArray, get_words _ _ (by omega)]
  have h1 : (Go.part 40 (words ws).toArray k).run Tryd.prog w = .ok (.int .u32 (u (ws.getD k 0#32))) w := by
    simp only [Go.part, isAgg, Sem.run_bind, run_underlying Tryd.underlying40, Result.andThen_ok, Sem.run_pure, hc]
    rfl
  simp [Instr.index, asIntOf, run_underlying Tryd.underlying68, hk, h1]
theorem size8 : (Tryd.prog.info? 61).map (·.size) = some 8 := by kernel_rfl
theorem blk0 (w : World) (A B C : Obj) : (((w.alloc A).alloc B).alloc C).heap[w.heap.size]? = some A := by
  have s1 : (w.alloc A).heap.size = w.heap.size + 1 := World.size_alloc _ _
  have s2 : ((w.alloc A).alloc B).heap.size = w.heap.size + 1 + 1 := by rw [World.size_alloc, s1]
  rw [Go.heap_alloc_old _ _ (by omega), Go.heap_alloc_old _ _ (by omega), Go.heap_alloc_new]
theorem blk3 (w : World) (A B C D : Obj) : ((((w.alloc A).alloc B).alloc C).alloc D).heap[w.heap.size + 1 + 1 + 1]? = some D := by
  have s1 : (w.alloc A).heap.size = w.heap.size + 1 := World.size_alloc _ _
  have s2 : ((w.alloc A).alloc B).heap.size = w.heap.size + 1 + 1 := by rw [World.size_alloc, s1]
  have s3 : (((w.alloc A).alloc B).alloc C).heap.size = w.heap.size + 1 + 1 + 1 := by rw [World.size_alloc, s2]
  rw [← s3, Go.heap_alloc_new]
/-- Four blocks made one behind the other, and the last one written whole. -/
theorem rows4 {w w1 : World} {A B C D : List Value} {old : Array Value} {tA tB tC tD : TypeId} (h : World.setRow ((((w.alloc (.cells A.toArray tA)).alloc (.cells B.toArray tB)).alloc (.cells C.toArray tC)).alloc (.cells old tD)) (w.heap.size + 1 + 1 + 1) D.toArray = w1) :
    Row w1 w.heap.size tA A ∧ Row w1 (w.heap.size + 1) tB B ∧ Row w1 (w.heap.size + 1 + 1) tC C ∧ Row w1 (w.heap.size + 1 + 1 + 1) tD D ∧ Below w.heap.size w w1 ∧ w1.heap.size = w.heap.size + 1 + 1 + 1 + 1 := by
  obtain ⟨r0, r1, r2, hb, hs⟩ := rows3 (w := w) (A := A) (B := B) (C := C) (tA := tA) (tB := tB) (tC := tC) rfl
  generalize ((w.alloc (.cells A.toArray tA)).alloc (.cells B.toArray tB)).alloc (.cells C.toArray tC) = w3 at *
  have e : w.heap.size + 1 + 1 + 1 = w3.heap.size := hs.symm
  rw [e] at h ⊢
  have h4 := row_new_set h
  have z1 := r0.lt
  have z2 := r1.lt
  have z3 := r2.lt
  refine ⟨r0.later h4.2 z1, r1.later h4.2 z2, r2.later h4.2 z3, h4.1, hb.trans (h4.2.mono hb.size), ?_⟩
  rw [← h]; simp
/-- The first k of one list, and what stands behind k of another one. -/
def mixL (A B : List (BitVec 32)) (k : Nat) : List (BitVec 32) := A.take k ++ B.drop k
theorem length_mixL (A B : List (BitVec 32)) (k : Nat) (hA : A.length = 8) (hB : B.length = 8) : (mixL A B k).length = 8 := by
  unfold mixL; rw [List.length_append, List.length_take, List.length_drop]; omega
theorem mixL_get (A B : List (BitVec 32)) (k : Nat) (hA : A.length = 8) (_ : B.length = 8) (hk : k < 8) : (mixL A B k).getD k 0#32 = B.getD k 0#32 := by
  unfold mixL
  rw [List.getD_eq_getElem?_getD, List.getElem?_append_right (by rw [List.length_take]; omega), List.length_take, List.getElem?_drop, show k + (k - min k A.length) = k by omega, ← List.getD_eq_getElem?_getD]
theorem mixL_set (A B : List (BitVec 32)) (k : Nat) (hA : A.length = 8) (hB : B.length = 8) (hk : k < 8) : (words (mixL A B k)).set k (.int .u32 (u (A.getD k 0#32))) = words (mixL A B (k + 1)) := by
  unfold words
  rw [← List.map_set (f := fun x => Value.int .u32 (u x))]
  congr 1
  unfold mixL
  rw [List.set_append_right _ _ (by rw [List.length_take]; omega), List.length_take, show k - min k A.length = 0 by omega]
  obtain ⟨x, r, hr⟩ : ∃ x r, B.drop k = x :: r := by
    cases h : B.drop k with
    | nil => have := congrArg List.length h; rw [List.length_drop] at this; simp at this; omega
    | cons x r => exact ⟨x, r, rfl⟩
  have hr' : B.drop (k + 1) = r := by rw [← List.drop_drop, hr]; rfl
  rw [hr, List.set_cons_zero, hr', List.take_add_one, List.append_assoc]
  simp [show k < A.length by omega]
theorem addS_get (st s : St) (i : Nat) (hi : i < 8) : (addS st s).list.getD i 0#32 = st.list.getD i 0#32 + s.list.getD i 0#32 := by
  rcases (by omega : i = 0 ∨ i = 1 ∨ i = 2 ∨ i = 3 ∨ i = 4 ∨ i = 5 ∨ i = 6 ∨ i = 7) with rfl | rfl | rfl | rfl | rfl | rfl | rfl | rfl <;> rfl
theorem row_set_far {w : World} {g g' : Nat} {t : TypeId} {xs : List Value} (h : Row w g t xs) (cs : Array Value) (hne : g ≠ g') : Row (w.setRow g' cs) g t xs := by
  unfold Row at h ⊢
  rw [setRow_other _ _ _ _ hne]; exact h
set_option maxHeartbeats 2000000 in
theorem compress_any (l : List UInt8) (hl : l.length = 64) (s : St) (w : World) (hT : Cube w) :
    Calls Tryd.prog 33 #[.agg (words s.list).toArray, .agg (byts l).toArray] w fun e w' => e = .returned (.agg (words (compS l s).list).toArray) ∧ Below w.heap.size w w' := by
  obtain ⟨ws, hws⟩ : ∃ ws, ws = sched l 64 := ⟨_, rfl⟩
  have hlen : ws.length = 64 := by rw [hws, length_sched]
  have HWS := Lib.hid hws
  clear hws
  have hszb := Lib.hid (show (Tryd.prog.info? 49).map (·.size) = some (byts l).toArray.size by rw [size64b, List.size_toArray, length_byts, hl])
  obtain ⟨xs, hxs⟩ : ∃ xs, xs = words s.list := ⟨_, rfl⟩
  have hxl : xs.length = 8 := by rw [hxs, length_words]; rfl
  have hone := Lib.hid (show xs.toArray.all (·.oneCell') = true from by rw [hxs]; exact all_one (words_one s.list))
  have hsz8 := Lib.hid (show (Tryd.prog.info? 61).map (·.size) = some xs.toArray.size by rw [size8, List.size_toArray, hxl])
  have h88 := Lib.hid (show 8 = xs.toArray.size by rw [List.size_toArray, hxl])
  rw [← hxs]
  have HXS := Lib.hid hxs
  clear hxs hxl
  go_enter Tryd.func33, Tryd.ntmps33
  go_wp2_with (first
    | (with_reducible refine wpList_load_row rfl 61 (.tmp 2) rfl w.heap.size rfl 61 xs.toArray (0, 0) (.array 8 40) (blk0 w _ _ _) Tryd.underlying61 rfl hsz8.out ?_)
    | (with_reducible refine wpList_store_row rfl 61 (.tmp 5) (.tmp 11) rfl (w.heap.size + 1 + 1 + 1) xs.toArray rfl rfl 61 _ (blk3 w _ _ _ _) hsz8.out (Eq.trans (by kernel_rfl) h88.out) hone.out ?_; refine Hid.out ?_))
  refine Lib.hid ?_
  generalize hw1 : World.setRow (World.alloc (World.alloc (World.alloc (World.alloc w _) _) _) _) _ _ = w1
  obtain ⟨q0, q1, q2, q3, hb1, hs1⟩ := rows4 (A := xs) (B := byts l) (C := List.replicate 8 (.int .u32 0)) (D := xs) hw1
  have Q1 := Lib.hid (show w1.heap[w.heap.size + 1]? = some (.cells (byts l).toArray 49 (0, 0)) from q1)
  clear hw1
  go_wp2_with (first
    | (with_reducible refine wpList_load_row rfl 49 (.tmp 3) rfl (w.heap.size + 1) rfl 49 (byts l).toArray (0, 0) (.array 64 5) Q1.out Tryd.underlying49 rfl hszb.out ?_)
    | (go_at_call 39; refine (schedule_any l hl _).mono ?_; rintro e w2 ⟨rfl, hb2⟩; rw [← HWS.out]))
  have p0 := q0.later hb2 q0.lt
  have p2 := q2.later hb2 q2.lt
  have p3 := q3.later hb2 q3.lt
  have hbA := hb1.trans (hb2.mono hb1.size)
  have hne0 : w.heap.size ≠ w.heap.size + 1 + 1 + 1 := by omega
  have hne2 : w.heap.size + 1 + 1 ≠ w.heap.size + 1 + 1 + 1 := by omega
  have hle3 : w.heap.size ≤ w.heap.size + 1 + 1 + 1 := by omega
  clear q0 q1 q2 q3 hb1 hb2 Q1 hs1 hszb
  go_loopw [14] (fun i wr => ∃ k : Nat, k ≤ 64 ∧ i = .int .i64 k ∧ Row wr w.heap.size 61 xs ∧ Row wr (w.heap.size + 1 + 1) 61 (List.replicate 8 (.int .u32 0)) ∧ Row wr (w.heap.size + 1 + 1 + 1) 61 (words (roundsS ws s k).list) ∧ Below w.heap.size w wr) (fun i _ => 64 - (intOf i).toNat)
  case atStart => exact ⟨0, by omega, rfl, p0, p2, by rw [HXS.out] at p3; exact p3, hbA⟩
  case round =>
    clear p0 p2 p3 hbA
    obtain ⟨k, hk, rfl, p0, p2, p3, hb⟩ := hrel
    by_cases hlt : k < 64
    · have hix := index_words ws hlen k hlt
      have HR := Lib.hid (show roundsS ws s (k + 1) = roundS (roundsS ws s k) (primeW k) (ws.getD k 0#32) from rfl)
      have hC := hT.later hb (Nat.le_refl _)
      generalize ws.getD k 0#32 = x at *
      generalize roundsS ws s k = st at *
      obtain ⟨a, b, c, d, e, f, g, h⟩ := st
      go_wp2_with fail
      have hl3 := Lib.hid (show wr.drew.drew.heap[w.heap.size + 1 + 1 + 1]? = some (.cells (words (St.list ⟨a, b, c, d, e, f, g, h⟩)).toArray 61 (0, 0)) from p3)
      have c0 : wr.cell? ⟨w.heap.size + 1 + 1 + 1, 0, none⟩ = some (.int .u32 (u a)) := p3.cell 0
      have c1 : wr.cell? ⟨w.heap.size + 1 + 1 + 1, 1, none⟩ = some (.int .u32 (u b)) := p3.cell 1
      have c2 : wr.cell? ⟨w.heap.size + 1 + 1 + 1, 2, none⟩ = some (.int .u32 (u c)) := p3.cell 2
      have c3 : wr.cell? ⟨w.heap.size + 1 + 1 + 1, 3, none⟩ = some (.int .u32 (u d)) := p3.cell 3
      have c4 : wr.cell? ⟨w.heap.size + 1 + 1 + 1, 4, none⟩ = some (.int .u32 (u e)) := p3.cell 4
      have c5 : wr.cell? ⟨w.heap.size + 1 + 1 + 1, 5, none⟩ = some (.int .u32 (u f)) := p3.cell 5
      have c6 : wr.cell? ⟨w.heap.size + 1 + 1 + 1, 6, none⟩ = some (.int .u32 (u g)) := p3.cell 6
      have c7 : wr.cell? ⟨w.heap.size + 1 + 1 + 1, 7, none⟩ = some (.int .u32 (u h)) := p3.cell 7
      refine wp_region_noPanic ?_
      refine wp_region_held_drew (S := fun w' => w' = wr.drew) (by kernel_rfl) (rfl) (fun hHeld => ?_)
      refine rtake 0 _ (some 18) _ rfl rfl (by kernel_rfl) (by kernel_rfl) (by kernel_rfl) (fun _ _ _ h => h) (by rfl) rfl (by intro w hS; subst hS; go_simp; try with_reducible rfl) ?_
      try (rw [put_some]; dsimp only [List.set])
      refine rtake 2 _ (some 20) _ rfl rfl (by kernel_rfl) (by kernel_rfl) (by kernel_rfl) (fun _ _ _ h => h) (by rfl) rfl (by intro w hS; subst hS; go_simp; try with_reducible rfl) ?_
      try (rw [put_some]; dsimp only [List.set])
      refine rtake 6 _ (some 24) _ rfl rfl (by kernel_rfl) (by kernel_rfl) (by kernel_rfl) (fun _ _ _ h => h) (by rfl) rfl (by intro w hS; subst hS; go_simp; try with_reducible rfl) ?_
      try (rw [put_some]; dsimp only [List.set])
      refine rtake 8 _ (some 26) _ rfl rfl (by kernel_rfl) (by kernel_rfl) (by kernel_rfl) (fun _ _ _ h => h) (by rfl) rfl (by intro w hS; subst hS; go_simp; try with_reducible rfl) ?_
      try (rw [put_some]; dsimp only [List.set])
      refine rtake 10 _ (some 28) _ rfl rfl (by kernel_rfl) (by kernel_rfl) (by kernel_rfl) (fun _ _ _ h => h) (by rfl) rfl (by intro w hS; subst hS; go_simp; try with_reducible rfl) ?_
      try (rw [put_some]; dsimp only [List.set])
      refine rtake 14 _ (some 32) _ rfl rfl (by kernel_rfl) (by kernel_rfl) (by kernel_rfl) (fun _ _ _ h => h) (by rfl) rfl (by intro w hS; subst hS; go_simp; try with_reducible rfl) ?_
      try (rw [put_some]; dsimp only [List.set])
      refine rtake 17 _ (some 35) _ rfl rfl (by kernel_rfl) (by kernel_rfl) (by kernel_rfl) (fun _ _ _ h => h) (by rfl) rfl (by intro w hS; subst hS; go_simp; try with_reducible rfl) ?_
      try (rw [put_some]; dsimp only [List.set])
      refine rtake 1 _ (some 19) _ rfl rfl (by kernel_rfl) (by kernel_rfl) (by kernel_rfl) (fun _ _ _ h => h) (by rfl) rfl (by intro w hS; subst hS; go_simp; try with_reducible rfl) ?_
      try (rw [put_some]; dsimp only [List.set])
      refine rtake 3 _ (some 21) _ rfl rfl (by kernel_rfl) (by kernel_rfl) (by kernel_rfl) (fun _ _ _ h => h) (by rfl) rfl (by intro w hS; subst hS; go_simp; try with_reducible rfl) ?_
      try (rw [put_some]; dsimp only [List.set])
      refine rtake 7 _ (some 25) _ rfl rfl (by kernel_rfl) (by kernel_rfl) (by kernel_rfl) (fun _ _ _ h => h) (by rfl) rfl (by intro w hS; subst hS; go_simp; try with_reducible rfl) ?_
      try (rw [put_some]; dsimp only [List.set])
      refine rtake 9 _ (some 27) _ rfl rfl (by kernel_rfl) (by kernel_rfl) (by kernel_rfl) (fun _ _ _ h => h) (by rfl) rfl (by intro w hS; subst hS; go_simp; try with_reducible rfl) ?_
      try (rw [put_some]; dsimp only [List.set])
      refine rtake 11 _ (some 29) _ rfl rfl (by kernel_rfl) (by kernel_rfl) (by kernel_rfl) (fun _ _ _ h => h) (by rfl) rfl (by intro w hS; subst hS; go_simp; try with_reducible rfl) ?_
      try (rw [put_some]; dsimp only [List.set])
      refine wpAnyH_ready (rs := [4]) (by kernel_rfl) (by simp) (AllReadyH.cons (o := _) rfl (fun K hK => ?_) AllReadyH.nil)
      go_simp
      refine (great_any _ _ _).mono ?_; rintro e w' ⟨rfl, rfl⟩
      try go_wp2_with fail
      refine hK.out _ _ rfl (fun _ => ?_)
      clear hK K
      try (rw [put_some]; dsimp only [List.set])
      refine rtake 5 _ (some 23) _ rfl rfl (by kernel_rfl) (by kernel_rfl) (by kernel_rfl) (fun _ _ _ h => h) (by rfl) rfl (by intro w hS; subst hS; go_simp; try with_reducible rfl) ?_
      try (rw [put_some]; dsimp only [List.set])
      refine wpAnyH_ready (rs := [12]) (by kernel_rfl) (by simp) (AllReadyH.cons (o := _) rfl (fun K hK => ?_) AllReadyH.nil)
      go_simp
      refine (choose_any _ _ _ _).mono ?_; rintro e w' ⟨rfl, rfl⟩
      try go_wp2_with fail
      refine hK.out _ _ rfl (fun _ => ?_)
      clear hK K
      try (rw [put_some]; dsimp only [List.set])
      refine rtake 13 _ (some 31) _ rfl rfl (by kernel_rfl) (by kernel_rfl) (by kernel_rfl) (fun _ _ _ h => h) (by rfl) rfl (by intro w hS; subst hS; go_simp; try with_reducible rfl) ?_
      try (rw [put_some]; dsimp only [List.set])
      refine wpAnyH_ready (rs := [15]) (by kernel_rfl) (by simp) (AllReadyH.cons (o := _) rfl (fun K hK => ?_) AllReadyH.nil)
      go_simp
      refine (prime_at_any k _ (cube_drew hC) hlt).mono ?_; rintro e w' ⟨rfl, rfl⟩
      try go_wp2_with fail
      refine hK.out _ _ rfl (fun _ => ?_)
      clear hK K
      try (rw [put_some]; dsimp only [List.set])
      refine rtake 16 _ (some 34) _ rfl rfl (by kernel_rfl) (by kernel_rfl) (by kernel_rfl) (fun _ _ _ h => h) (by rfl) rfl (by intro w hS; subst hS; go_simp; try with_reducible rfl) ?_
      try (rw [put_some]; dsimp only [List.set])
      refine rtake 18 _ (some 36) _ rfl rfl (by kernel_rfl) (by kernel_rfl) (by kernel_rfl) (fun _ _ _ h => h) (by rfl) rfl (by intro w hS; subst hS; go_simp; try with_reducible rfl) ?_
      try (rw [put_some]; dsimp only [List.set])
      refine rtake 19 _ (some 8) _ rfl rfl (by kernel_rfl) (by kernel_rfl) (by kernel_rfl) (fun _ _ _ h => h) (by rfl) rfl (by intro w hS; subst hS; go_simp; try with_reducible rfl) ?_
      try (rw [put_some]; dsimp only [List.set])
      refine wpAnyH_done (by kernel_rfl) ?_ _
      refine NoPanic.normal ?_
      go_wp2_with fail
      generalize ht1 : h + great 1 e + uchoose e f g + primeW k + x = t1
      refine wp_region_noPanic ?_
      refine wp_region_held_drew (S := fun w' => w' = wr.drew.drew) (by kernel_rfl) (rfl) (fun hHeld => ?_)
      refine rtake 0 _ (some 37) _ rfl rfl (by kernel_rfl) (by kernel_rfl) (by kernel_rfl) (fun _ _ _ h => h) (by rfl) rfl (by intro w hS; subst hS; go_simp; try with_reducible rfl) ?_
      try (rw [put_some]; dsimp only [List.set])
      refine rtake 3 _ (some 40) _ rfl rfl (by kernel_rfl) (by kernel_rfl) (by kernel_rfl) (fun _ _ _ h => h) (by rfl) rfl (by intro w hS; subst hS; go_simp; try with_reducible rfl) ?_
      try (rw [put_some]; dsimp only [List.set])
      refine rtake 5 _ (some 42) _ rfl rfl (by kernel_rfl) (by kernel_rfl) (by kernel_rfl) (fun _ _ _ h => h) (by rfl) rfl (by intro w hS; subst hS; go_simp; try with_reducible rfl) ?_
      try (rw [put_some]; dsimp only [List.set])
      refine rtake 7 _ (some 44) _ rfl rfl (by kernel_rfl) (by kernel_rfl) (by kernel_rfl) (fun _ _ _ h => h) (by rfl) rfl (by intro w hS; subst hS; go_simp; try with_reducible rfl) ?_
      try (rw [put_some]; dsimp only [List.set])
      refine rtake 1 _ (some 38) _ rfl rfl (by kernel_rfl) (by kernel_rfl) (by kernel_rfl) (fun _ _ _ h => h) (by rfl) rfl (by intro w hS; subst hS; go_simp; try with_reducible rfl) ?_
      try (rw [put_some]; dsimp only [List.set])
      refine rtake 4 _ (some 41) _ rfl rfl (by kernel_rfl) (by kernel_rfl) (by kernel_rfl) (fun _ _ _ h => h) (by rfl) rfl (by intro w hS; subst hS; go_simp; try with_reducible rfl) ?_
      try (rw [put_some]; dsimp only [List.set])
      refine rtake 6 _ (some 43) _ rfl rfl (by kernel_rfl) (by kernel_rfl) (by kernel_rfl) (fun _ _ _ h => h) (by rfl) rfl (by intro w hS; subst hS; go_simp; try with_reducible rfl) ?_
      try (rw [put_some]; dsimp only [List.set])
      refine rtake 8 _ (some 45) _ rfl rfl (by kernel_rfl) (by kernel_rfl) (by kernel_rfl) (fun _ _ _ h => h) (by rfl) rfl (by intro w hS; subst hS; go_simp; try with_reducible rfl) ?_
      try (rw [put_some]; dsimp only [List.set])
      refine wpAnyH_ready (rs := [2]) (by kernel_rfl) (by simp) (AllReadyH.cons (o := _) rfl (fun K hK => ?_) AllReadyH.nil)
      go_simp
      refine (great_any _ _ _).mono ?_; rintro e w' ⟨rfl, rfl⟩
      try go_wp2_with fail
      refine hK.out _ _ rfl (fun _ => ?_)
      clear hK K
      try (rw [put_some]; dsimp only [List.set])
      refine wpAnyH_ready (rs := [9]) (by kernel_rfl) (by simp) (AllReadyH.cons (o := _) rfl (fun K hK => ?_) AllReadyH.nil)
      go_simp
      refine (most_any _ _ _ _).mono ?_; rintro e w' ⟨rfl, rfl⟩
      try go_wp2_with fail
      refine hK.out _ _ rfl (fun _ => ?_)
      clear hK K
      try (rw [put_some]; dsimp only [List.set])
      refine rtake 10 _ (some 47) _ rfl rfl (by kernel_rfl) (by kernel_rfl) (by kernel_rfl) (fun _ _ _ h => h) (by rfl) rfl (by intro w hS; subst hS; go_simp; try with_reducible rfl) ?_
      try (rw [put_some]; dsimp only [List.set])
      refine rtake 11 _ (some 9) _ rfl rfl (by kernel_rfl) (by kernel_rfl) (by kernel_rfl) (fun _ _ _ h => h) (by rfl) rfl (by intro w hS; subst hS; go_simp; try with_reducible rfl) ?_
      try (rw [put_some]; dsimp only [List.set])
      refine wpAnyH_done (by kernel_rfl) ?_ _
      refine NoPanic.normal ?_
      generalize ht2 : great 0 a + umost a b c = t2
      go_wp2_with (with_reducible refine wpList_store_row rfl 61 (.tmp 5) (.tmp 67) rfl (w.heap.size + 1 + 1 + 1) _ rfl rfl 61 _ hl3.out (by kernel_rfl) (by kernel_rfl) (by kernel_rfl) ?_)
      clear c0 c1 c2 c3 c4 c5 c6 c7 hix hC hT
      go_roundw
      case rel =>
        refine ⟨k + 1, by omega, by go_num, row_set_far p0.drew.drew _ hne0, row_set_far p2.drew.drew _ hne2, ?_, below_setRow hb.drew.drew hle3 _⟩
        rw [HR.out]
        have h := setRow_heap wr.drew.drew (w.heap.size + 1 + 1 + 1) _ #[Value.int IntKind.u32 (u (t1 + t2)), Value.int IntKind.u32 (u a), Value.int IntKind.u32 (u b), Value.int IntKind.u32 (u c), Value.int IntKind.u32 (u (d + t1)), Value.int IntKind.u32 (u e), Value.int IntKind.u32 (u f), Value.int IntKind.u32 (u g)] 61 (0, 0) hl3.out
        unfold roundS
        simp only [ht1, ht2]
        exact h
      case measure => simp [intOf]; omega
    · have e64 : k = 64 := by omega
      rw [e64] at p3
      clear e64 hT
      generalize hst : roundsS ws s 64 = st at *
      go_wp2_with fail
      have HST := Lib.hid hst
      clear hst
      have hsl : s.list.length = 8 := rfl
      rw [show words st.list = words (mixL (addS st s).list st.list 0) from rfl] at p3
      go_loopw [69] (fun i wr => ∃ k : Nat, k ≤ 8 ∧ i = .int .i64 k ∧ Row wr w.heap.size 61 xs ∧ Row wr (w.heap.size + 1 + 1) 61 (List.replicate 8 (.int .u32 0)) ∧ Row wr (w.heap.size + 1 + 1 + 1) 61 (words (mixL (addS st s).list st.list k)) ∧ Below w.heap.size w wr) (fun i _ => 8 - (intOf i).toNat)
      case atStart => exact ⟨0, by omega, rfl, p0, p2, p3, hb⟩
      case round =>
        clear p0 p2 p3 hb
        obtain ⟨i, hi, rfl, p0, p2, p3, hb⟩ := hrel
        by_cases hlt8 : i < 8
        · go_wp2_with fail
          have c1 := (p3.drew.cell i).trans (get_words _ i (by rw [length_mixL _ _ _ rfl rfl]; exact hlt8))
          rw [mixL_get _ _ _ rfl rfl hlt8] at c1
          have p0' := p0
          rw [HXS.out] at p0'
          have c2 := (p0'.drew.cell i).trans (get_words _ i (by rw [hsl]; exact hlt8))
          have hsum := addS_get st s i hlt8
          have hset := mixL_set (addS st s).list st.list i rfl rfl hlt8
          have hf := p3.drew.free i
          generalize st.list.getD i 0#32 = y at *
          generalize s.list.getD i 0#32 = z at *
          have n8 : (i : Int) < 8 := by omega
          refine wp_region_noPanic ?_
          refine wp_region_held_drew (S := fun w' => w'.cell? ⟨w.heap.size, i, none⟩ = some (.int .u32 (u z))) (by kernel_rfl) (c2) (fun hHeld => ?_)
          refine rtake 0 _ (some 72) _ rfl rfl (by kernel_rfl) (by kernel_rfl) (by kernel_rfl) (fun _ _ _ h => h) (by rfl) hHeld (by intro w hS; go_simp; try with_reducible rfl) ?_
          try (rw [put_some]; dsimp only [List.set])
          refine rtake 3 _ (some 75) _ rfl rfl (by kernel_rfl) (by kernel_rfl) (by kernel_rfl) (fun _ _ _ h => h) (by rfl) hHeld (by intro w hS; go_simp; try with_reducible rfl) ?_
          try (rw [put_some]; dsimp only [List.set])
          refine rtake 1 _ (some 73) _ rfl rfl (by kernel_rfl) (by kernel_rfl) (by kernel_rfl) (fun _ _ _ h => h) (by rfl) hHeld (by intro w hS; go_simp; try with_reducible rfl) ?_
          try (rw [put_some]; dsimp only [List.set])
          refine rtake 4 _ (some 76) _ rfl rfl (by kernel_rfl) (by kernel_rfl) (by kernel_rfl) (fun _ _ _ h => h) (by rfl) hHeld (by intro w hS; go_simp; try with_reducible rfl) ?_
          try (rw [put_some]; dsimp only [List.set])
          refine rtake 5 _ (some 77) _ rfl rfl (by kernel_rfl) (by kernel_rfl) (by kernel_rfl) (fun _ _ _ h => h) (by rfl) hHeld (by intro w hS; go_simp; try with_reducible rfl) ?_
          try (rw [put_some]; dsimp only [List.set])
          refine wpAnyH_ready (rs := [2]) (by kernel_rfl) (by simp) (AllReadyH.cons (o := _) rfl (fun K hK => ?_) AllReadyH.nil)
          go_simp
          refine hK.out _ _ (hHeld) (fun _ => ?_)
          clear hK K
          try (rw [put_some]; dsimp only [List.set])
          refine rtake 6 _ (some 78) _ rfl rfl (by kernel_rfl) (by kernel_rfl) (by kernel_rfl) (fun _ _ _ h => h) (by rfl) hHeld (by intro w hS; go_simp; try with_reducible rfl) ?_
          try (rw [put_some]; dsimp only [List.set])
          refine rtake 7 _ (some 79) _ rfl rfl (by kernel_rfl) (by kernel_rfl) (by kernel_rfl) (fun _ _ _ h => h) (by rfl) hHeld (by intro w hS; go_simp; try with_reducible rfl) ?_
          try (rw [put_some]; dsimp only [List.set])
          refine wpAnyH_ready (rs := [8]) (by kernel_rfl) (by simp) (AllReadyH.cons (o := _) rfl (fun K hK => ?_) AllReadyH.nil)
          go_simp
          refine hK.out _ _ (by exact (World.cell?_setCell_far _ _ _ _ (fun e => hne0 e.symm)).trans c2) (fun _ => ?_)
          clear hK K
          try (rw [put_some]; dsimp only [List.set])
          refine wpAnyH_done (by kernel_rfl) ?_ _
          refine NoPanic.normal ?_
          go_wp2_with fail
          go_roundw
          case rel =>
            refine ⟨i + 1, by omega, by go_num, (p0.far _ _ hne0).drew, (p2.far _ _ hne2).drew, ?_, (hb.setCell hle3 _).drew⟩
            have h := (p3.set i (.int .u32 (u (y + z)))).drew
            rw [← hsum, hset, hsum] at h
            exact h
          case measure => simp [intOf]; omega
        · have e8 : i = 8 := by omega
          rw [e8] at p3
          have hz : mixL (addS st s).list st.list 8 = (addS st s).list := rfl
          rw [hz] at p3
          have R3 := Lib.hid (show wr.heap[w.heap.size + 1 + 1 + 1]? = some (.cells (words (addS st s).list).toArray 61 (0, 0)) from p3)
          have R2 := Lib.hid (show wr.heap[w.heap.size + 1 + 1]? = some (.cells (List.replicate 8 (Value.int .u32 0)).toArray 61 (0, 0)) from p2)
          have hszf := Lib.hid (show (Tryd.prog.info? 61).map (·.size) = some (words (addS st s).list).toArray.size by rw [size8]; rfl)
          have hszo := Lib.hid (show (List.replicate 8 (Value.int .u32 0)).toArray.size = (words (addS st s).list).toArray.size by rw [List.size_toArray, List.size_toArray, List.length_replicate, length_words]; rfl)
          have honf := Lib.hid (all_one (words_one (addS st s).list))
          have hcomp : compS l s = addS (roundsS ws s 64) s := by unfold compS; rw [HWS.out]
          rw [HST.out] at hcomp
          have hW : words (compS l s).list = words (addS st s).list := by rw [hcomp]
          generalize words (addS st s).list = W8 at *
          have HW := Lib.hid hW
          clear p0 p2 p3 hz hcomp hW e8 hsl
          go_wp2_with (first
            | (with_reducible refine wpList_load_row rfl 61 (.tmp 5) rfl (w.heap.size + 1 + 1 + 1) rfl 61 W8.toArray (0, 0) (.array 8 40) R3.out Tryd.underlying61 rfl hszf.out ?_)
            | (with_reducible refine wpList_store_row rfl 61 (.tmp 4) (.tmp 81) rfl (w.heap.size + 1 + 1) W8.toArray rfl rfl 61 _ R2.out hszf.out hszo.out honf.out ?_; have HG := Lib.hid (setRow_heap wr (w.heap.size + 1 + 1) _ W8.toArray 61 (0, 0) R2.out))
            | (with_reducible refine bodyPost_ret (results_cell_row rfl _ _ (w.heap.size + 1 + 1) 61 W8.toArray (0, 0) (.array 8 40) rfl HG.out Tryd.underlying61 rfl hszf.out) rfl ?_))
          exact ⟨by rw [HW.out], below_setRow hb (by omega) _⟩
end Go.Proofs.YtefbopgbikmohaaDoor
