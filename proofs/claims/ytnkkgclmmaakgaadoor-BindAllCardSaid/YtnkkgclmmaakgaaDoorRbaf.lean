/- Texts of this claim, one behind the other. -/
import Derived.Test.YtnkkgclmmaakgaaDoorRbae
import Derived.Deep.MidRow
/- LAYER 2: eight words, and a block: package block's Compress. -/
namespace Go.Proofs.YtnkkgclmmaakgaaDoor
set_option maxRecDepth 100000
open Go.RowKit

/-- The eight words. -/
structure St where
  a : BitVec 32
  b : BitVec 32
  c : BitVec 32
  d : BitVec 32
  e : BitVec 32
  f : BitVec 32
  g : BitVec 32
  h : BitVec 32
def St.list (s : St) : List (BitVec 32) := [s.a, s.b, s.c, s.d, s.e, s.f, s.g, s.h]
def roundS (s : St) (k w : BitVec 32) : St :=
  ⟨s.h + great 1 s.e + uchoose s.e s.f s.g + k + w + (great 0 s.a + umost s.a s.b s.c), s.a, s.b, s.c, s.d + (s.h + great 1 s.e + uchoose s.e s.f s.g + k + w), s.e, s.f, s.g⟩
/-- The number of the i-th prime's root, as a word. -/
def primeW (i : Nat) : BitVec 32 := BitVec.ofNat 32 (cubeT.getD i 0).toNat
theorem primeW_all : (List.range 64).all (fun i => decide (u (primeW i) = cubeT.getD i 0)) = true := by decide +kernel
theorem u_primeW (i : Nat) (h : i < 64) : u (primeW i) = cubeT.getD i 0 := by
  have := List.all_eq_true.1 primeW_all i (by simpa using h)
  simpa using this
theorem prime_at_any (k : Nat) (w : World) (hT : Cube w) (hk : k < 64) :
    Calls Tryd.prog 72 #[.int .i64 k] w fun e w' => e = .returned (.int .u32 (u (primeW k))) ∧ w = w' := by
  refine (prime_any k w hT (by omega)).mono ?_
  rintro e w' ⟨rfl, rfl⟩
  refine ⟨?_, rfl⟩
  rw [u_primeW k hk]
  unfold primeV
  rw [if_pos (by omega), Int.toNat_natCast]
/-- The eight words behind k rounds. -/
def roundsS (ws : List (BitVec 32)) (s : St) : Nat → St
  | 0 => s
  | k + 1 => roundS (roundsS ws s k) (primeW k) (ws.getD k 0#32)
def addS (s t : St) : St := ⟨s.a + t.a, s.b + t.b, s.c + t.c, s.d + t.d, s.e + t.e, s.f + t.f, s.g + t.g, s.h + t.h⟩
/-- What the eight words become by a block. -/
def compS (l : List UInt8) (s : St) : St := addS (roundsS (sched l 64) s 64) s
theorem cube_drew {w : World} (h : Cube w) : Cube w.drew := ⟨h.at_⟩
theorem index_words (ws : List (BitVec 32)) (hl : ws.length = 64) (k : Nat) (hk : k < 64) (w : World) :
    (Instr.index 104 (.agg (words ws).toArray) (.int .i64 k)).run Tryd.prog w = .ok (.int .u32 (u (ws.getD k 0#32))) w := by
  have hc : (words ws).toArray[k]? = some (.int .u32 (u (ws.getD k 0#32))) := by
    rw [List.getElem?_toArray, get_words _ _ (by omega)]
  have h1 : (Go.part 89 (words ws).toArray k).run Tryd.prog w = .ok (.int .u32 (u (ws.getD k 0#32))) w := by
    simp only [Go.part, isAgg, Sem.run_bind, run_underlying Tryd.underlying89, Result.andThen_ok, Sem.run_pure, hc]
    rfl
  simp [Instr.index, asIntOf, run_underlying Tryd.underlying104, hk, h1]
theorem size8 : (Tryd.prog.info? 97).map (·.size) = some 8 := by kernel_rfl
theorem blk0 (w : World) (A B C : Obj) : (((w.alloc A).alloc B).alloc C).heap[w.heap.size]? = some A := by
  have s1 : (w.alloc A).heap.size = w.heap.size + 1 := World.size_alloc _ _
  have s2 : ((w.alloc A).alloc B).heap.size = w.heap.size + 1 + 1 := by rw [World.size_alloc, s1]
  rw [Go.heap_alloc_old _ _ (by omega), Go.heap_alloc_old _ _ (by omega), Go.heap_alloc_new]
theorem blk3 (w : World) (A B C D : Obj) : ((((w.alloc A).alloc B).alloc C).alloc D).heap[w.heap.size + 1 + 1 + 1]? = some D := by
  have s1 : (w.alloc A).heap.size = w.heap.size + 1 := World.size_alloc _ _
  have s2 : ((w.alloc A).alloc B).heap.size = w.heap.size + 1 + 1 := by rw [World.size_alloc, s1]
  have s3 : (((w.alloc A).alloc B).alloc C).heap.size = w.heap.size + 1 + 1 + 1 := by rw [World.size_alloc, s2]
  rw [← s3, Go.heap_alloc_new]
/-- Four blocks made one behind the other, and the last one written whole. -/
theorem rows4 {w w1 : World} {A B C D : List Value} {old : Array Value} {tA tB tC tD : TypeId} (h : World.setRow ((((w.alloc (.cells A.toArray tA)).alloc (.cells B.toArray tB)).alloc (.cells C.toArray tC)).alloc (.cells old tD)) (w.heap.size + 1 + 1 + 1) D.toArray = w1) :
    Row w1 w.heap.size tA A ∧ Row w1 (w.heap.size + 1) tB B ∧ Row w1 (w.heap.size + 1 + 1) tC C ∧ Row w1 (w.heap.size + 1 + 1 + 1) tD D ∧ Below w.heap.size w w1 ∧ w1.heap.size = w.heap.size + 1 + 1 + 1 + 1 := by
  obtain ⟨r0, r1, r2, hb, hs⟩ := rows3 (w := w) (A := A) (B := B) (C := C) (tA := tA) (tB := tB) (tC := tC) rfl
  generalize ((w.alloc (.cells A.toArray tA)).alloc (.cells B.toArray tB)).alloc (.cells C.toArray tC) = w3 at *
  have e : w.heap.size + 1 + 1 + 1 = w3.heap.size := hs.symm
  rw [e] at h ⊢
  have h4 := row_new_set h
  have z1 := r0.lt
  have z2 := r1.lt
  have z3 := r2.lt
  refine ⟨r0.later h4.2 z1, r1.later h4.2 z2, r2.later h4.2 z3, h4.1, hb.trans (h4.2.mono hb.size), ?_⟩
  rw [← h]; simp
/-- The first k of one list, and what stands behind k of another one. -/
def mixL (A B : List (BitVec 32)) (k : Nat) : List (BitVec 32) := A.take k ++ B.drop k
theorem length_mixL (A B : List (BitVec 32)) (k : Nat) (hA : A.length = 8) (hB : B.length = 8) : (mixL A B k).length = 8 := by
  unfold mixL; rw [List.length_append, List.length_take, List.length_drop]; omega
theorem mixL_get (A B : List (BitVec 32)) (k : Nat) (hA : A.length = 8) (_ : B.length = 8) (hk : k < 8) : (mixL A B k).getD k 0#32 = B.getD k 0#32 := by
  unfold mixL
  rw [List.getD_eq_getElem?_getD, List.getElem?_append_right (by rw [List.length_take]; omega), List.length_take, List.getElem?_drop, show k + (k - min k A.length) = k by omega, ← List.getD_eq_getElem?_getD]
theorem mixL_set (A B : List (BitVec 32)) (k : Nat) (hA : A.length = 8) (hB : B.length = 8) (hk : k < 8) : (words (mixL A B k)).set k (.int .u32 (u (A.getD k 0#32))) = words (mixL A B (k + 1)) := by
  unfold words
  rw [← List.map_set (f := fun x => Value.int .u32 (u x))]
  congr 1
  unfold mixL
  rw [List.set_append_right _ _ (by rw [List.length_take]; omega), List.length_take, show k - min k A.length = 0 by omega]
  obtain ⟨x, r, hr⟩ : ∃ x r, B.drop k = x :: r := by
    cases h : B.drop k with
    | nil => have := congrArg List.length h; rw [List.length_drop] at this; simp at this; omega
    | cons x r => exact ⟨x, r, rfl⟩
  have hr' : B.drop (k + 1) = r := by rw [← List.drop_drop, hr]; rfl
  rw [hr, List.set_cons_zero, hr', List.take_add_one, List.append_assoc]
  simp [show k < A.length by omega]
theorem addS_get (st s : St) (i : Nat) (hi : i < 8) : (addS st s).list.getD i 0#32 = st.list.getD i 0#32 + s.list.getD i 0#32 := by
  rcases (by omega : i = 0 ∨ i = 1 ∨ i = 2 ∨ i = 3 ∨ i = 4 ∨ i = 5 ∨ i = 6 ∨ i = 7) with rfl | rfl | rfl | rfl | rfl | rfl | rfl | rfl <;> rfl
theorem row_set_far {w : World} {g g' : Nat} {t : TypeId} {xs : List Value} (h : Row w g t xs) (cs : Array Value) (hne : g ≠ g') : Row (w.setRow g' cs) g t xs := by
  unfold Row at h ⊢
  rw [setRow_other _ _ _ _ hne]; exact h
set_option maxHeartbeats 2000000 in
theorem compress_any (l : List UInt8) (hl : l.length = 64) (s : St) (w : World) (hT : Cube w) :
    Calls Tryd.prog 63 #[.agg (words s.list).toArray, .agg (byts l).toArray] w fun e w' => e = .returned (.agg (words (compS l s).list).toArray) ∧ Below w.heap.size w w' := by
  obtain ⟨ws, hws⟩ : ∃ ws, ws = sched l 64 := ⟨_, rfl⟩
  have hlen : ws.length = 64 := by rw [hws, length_sched]
  have HWS := Lib.hid hws
  clear hws
  have hszb := Lib.hid (show (Tryd.prog.info? 81).map (·.size) = some (byts l).toArray.size by rw [size64b, List.size_toArray, length_byts, hl])
  obtain ⟨xs, hxs⟩ : ∃ xs, xs = words s.list := ⟨_, rfl⟩
  have hxl : xs.length = 8 := by rw [hxs, length_words]; rfl
  have hone := Lib.hid (show xs.toArray.all (·.oneCell') = true from by rw [hxs]; exact all_one (words_one s.list))
  have hsz8 := Lib.hid (show (Tryd.prog.info? 97).map (·.size) = some xs.toArray.size by rw [size8, List.size_toArray, hxl])
  have h88 := Lib.hid (show 8 = xs.toArray.size by rw [List.size_toArray, hxl])
  rw [← hxs]
  have HXS := Lib.hid hxs
  clear hxs hxl
  go_enter Tryd.func63, Tryd.ntmps63
  go_wp2_with (first
    | (with_reducible refine wpList_load_row rfl 97 (.tmp 2) rfl w.heap.size rfl 97 xs.toArray (0, 0) (.array 8 89) (blk0 w _ _ _) Tryd.underlying97 rfl hsz8.out ?_)
    | (with_reducible refine wpList_store_row rfl 97 (.tmp 5) (.tmp 11) rfl (w.heap.size + 1 + 1 + 1) xs.toArray rfl rfl 97 _ (blk3 w _ _ _ _) hsz8.out (Eq.trans (by kernel_rfl) h88.out) hone.out ?_; refine Hid.out ?_))
  refine Lib.hid ?_
  generalize hw1 : World.setRow (World.alloc (World.alloc (World.alloc (World.alloc w _) _) _) _) _ _ = w1
  obtain ⟨q0, q1, q2, q3, hb1, hs1⟩ := rows4 (A := xs) (B := byts l) (C := List.replicate 8 (.int .u32 0)) (D := xs) hw1
  have Q1 := Lib.hid (show w1.heap[w.heap.size + 1]? = some (.cells (byts l).toArray 81 (0, 0)) from q1)
  clear hw1
  go_wp2_with (first
    | (with_reducible refine wpList_load_row rfl 81 (.tmp 3) rfl (w.heap.size + 1) rfl 81 (byts l).toArray (0, 0) (.array 64 5) Q1.out Tryd.underlying81 rfl hszb.out ?_)
    | (go_at_call 69; refine (schedule_any l hl _).mono ?_; rintro e w2 ⟨rfl, hb2⟩; rw [← HWS.out]))
  have p0 := q0.later hb2 q0.lt
  have p2 := q2.later hb2 q2.lt
  have p3 := q3.later hb2 q3.lt
  have hbA := hb1.trans (hb2.mono hb1.size)
  have hne0 : w.heap.size ≠ w.heap.size + 1 + 1 + 1 := by omega
  have hne2 : w.heap.size + 1 + 1 ≠ w.heap.size + 1 + 1 + 1 := by omega
  have hle3 : w.heap.size ≤ w.heap.size + 1 + 1 + 1 := by omega
  clear q0 q1 q2 q3 hb1 hb2 Q1 hs1 hszb
  go_loopw [14] (fun i wr => ∃ k : Nat, k ≤ 64 ∧ i = .int .i64 k ∧ Row wr w.heap.size 97 xs ∧ Row wr (w.heap.size + 1 + 1) 97 (List.replicate 8 (.int .u32 0)) ∧ Row wr (w.heap.size + 1 + 1 + 1) 97 (words (roundsS ws s k).list) ∧ Below w.heap.size w wr) (fun i _ => 64 - (intOf i).toNat)
  case atStart => exact ⟨0, by omega, rfl, p0, p2, by rw [HXS.out] at p3; exact p3, hbA⟩
  case round =>
    clear p0 p2 p3 hbA
    obtain ⟨k, hk, rfl, p0, p2, p3, hb⟩ := hrel
    by_cases hlt : k < 64
    · have hix := index_words ws hlen k hlt
      have HR := Lib.hid (show roundsS ws s (k + 1) = roundS (roundsS ws s k) (primeW k) (ws.getD k 0#32) from rfl)
      have hC := hT.later hb (Nat.le_refl _)
      generalize ws.getD k 0#32 = x at *
      generalize roundsS ws s k = st at *
      obtain ⟨a, b, c, d, e, f, g, h⟩ := st
      go_wp2_with fail
      have hl3 := Lib.hid (show wr.drew.drew.heap[w.heap.size + 1 + 1 + 1]? = some (.cells (words (St.list ⟨a, b, c, d, e, f, g, h⟩)).toArray 97 (0, 0)) from p3)
      have c0 : wr.cell? ⟨w.heap.size + 1 + 1 + 1, 0, none⟩ = some (.int .u32 (u a)) := p3.cell 0
      have c1 : wr.cell? ⟨w.heap.size + 1 + 1 + 1, 1, none⟩ = some (.int .u32 (u b)) := p3.cell 1
      have c2 : wr.cell? ⟨w.heap.size + 1 + 1 + 1, 2, none⟩ = some (.int .u32 (u c)) := p3.cell 2
      have c3 : wr.cell? ⟨w.heap.size + 1 + 1 + 1, 3, none⟩ = some (.int .u32 (u d)) := p3.cell 3
      have c4 : wr.cell? ⟨w.heap.size + 1 + 1 + 1, 4, none⟩ = some (.int .u32 (u e)) := p3.cell 4
      have c5 : wr.cell? ⟨w.heap.size + 1 + 1 + 1, 5, none⟩ = some (.int .u32 (u f)) := p3.cell 5
      have c6 : wr.cell? ⟨w.heap.size + 1 + 1 + 1, 6, none⟩ = some (.int .u32 (u g)) := p3.cell 6
      have c7 : wr.cell? ⟨w.heap.size + 1 + 1 + 1, 7, none⟩ = some (.int .u32 (u h)) := p3.cell 7
      refine wp_region_noPanic ?_
      refine wp_region_held_drew (S := fun w' => w' = wr.drew) (by kernel_rfl) (rfl) (fun hHeld => ?_)
      refine rt 0 18 rfl ?_ (hy := by intro w hS; subst hS; go_simp; try with_reducible rfl)
      refine rt 2 20 rfl ?_ (hy := by intro w hS; subst hS; go_simp; try with_reducible rfl)
      refine rt 6 24 rfl ?_ (hy := by intro w hS; subst hS; go_simp; try with_reducible rfl)
      refine rt 8 26 rfl ?_ (hy := by intro w hS; subst hS; go_simp; try with_reducible rfl)
      refine rt 10 28 rfl ?_ (hy := by intro w hS; subst hS; go_simp; try with_reducible rfl)
      refine rt 14 32 rfl ?_ (hy := by intro w hS; subst hS; go_simp; try with_reducible rfl)
      refine rt 17 35 rfl ?_ (hy := by intro w hS; subst hS; go_simp; try with_reducible rfl)
      refine rt 1 19 rfl ?_ (hy := by intro w hS; subst hS; go_simp; try with_reducible rfl)
      refine rt 3 21 rfl ?_ (hy := by intro w hS; subst hS; go_simp; try with_reducible rfl)
      refine rt 7 25 rfl ?_ (hy := by intro w hS; subst hS; go_simp; try with_reducible rfl)
      refine rt 9 27 rfl ?_ (hy := by intro w hS; subst hS; go_simp; try with_reducible rfl)
      refine rt 11 29 rfl ?_ (hy := by intro w hS; subst hS; go_simp; try with_reducible rfl)
      refine rc1 4 fun K hK => ?_
      go_simp
      refine (great_any _ _ _).mono ?_; rintro e w' ⟨rfl, rfl⟩
      try go_wp2_with fail
      refine hK.out _ _ rfl (fun _ => ?_)
      clear hK K
      try (rw [put_some]; dsimp only [List.set])
      refine rt 5 23 rfl ?_ (hy := by intro w hS; subst hS; go_simp; try with_reducible rfl)
      refine rc1 12 fun K hK => ?_
      go_simp
      refine (choose_any _ _ _ _).mono ?_; rintro e w' ⟨rfl, rfl⟩
      try go_wp2_with fail
      refine hK.out _ _ rfl (fun _ => ?_)
      clear hK K
      try (rw [put_some]; dsimp only [List.set])
      refine rt 13 31 rfl ?_ (hy := by intro w hS; subst hS; go_simp; try with_reducible rfl)
      refine rc1 15 fun K hK => ?_
      go_simp
      refine (prime_at_any k _ (cube_drew hC) hlt).mono ?_; rintro e w' ⟨rfl, rfl⟩
      try go_wp2_with fail
      refine hK.out _ _ rfl (fun _ => ?_)
      clear hK K
      try (rw [put_some]; dsimp only [List.set])
      refine rt 16 34 rfl ?_ (hy := by intro w hS; subst hS; go_simp; try with_reducible rfl)
      refine rt 18 36 rfl ?_ (hy := by intro w hS; subst hS; go_simp; try with_reducible rfl)
      refine rt 19 8 rfl ?_ (hy := by intro w hS; subst hS; go_simp; try with_reducible rfl)
      refine wpAnyH_done (by kernel_rfl) ?_ _
      refine NoPanic.normal ?_
      go_wp2_with fail
      generalize ht1 : h + great 1 e + uchoose e f g + primeW k + x = t1
      refine wp_region_noPanic ?_
      refine wp_region_held_drew (S := fun w' => w' = wr.drew.drew) (by kernel_rfl) (rfl) (fun hHeld => ?_)
      refine rt 0 37 rfl ?_ (hy := by intro w hS; subst hS; go_simp; try with_reducible rfl)
      refine rt 3 40 rfl ?_ (hy := by intro w hS; subst hS; go_simp; try with_reducible rfl)
      refine rt 5 42 rfl ?_ (hy := by intro w hS; subst hS; go_simp; try with_reducible rfl)
      refine rt 7 44 rfl ?_ (hy := by intro w hS; subst hS; go_simp; try with_reducible rfl)
      refine rt 1 38 rfl ?_ (hy := by intro w hS; subst hS; go_simp; try with_reducible rfl)
      refine rt 4 41 rfl ?_ (hy := by intro w hS; subst hS; go_simp; try with_reducible rfl)
      refine rt 6 43 rfl ?_ (hy := by intro w hS; subst hS; go_simp; try with_reducible rfl)
      refine rt 8 45 rfl ?_ (hy := by intro w hS; subst hS; go_simp; try with_reducible rfl)
      refine rc1 2 fun K hK => ?_
      go_simp
      refine (great_any _ _ _).mono ?_; rintro e w' ⟨rfl, rfl⟩
      try go_wp2_with fail
      refine hK.out _ _ rfl (fun _ => ?_)
      clear hK K
      try (rw [put_some]; dsimp only [List.set])
      refine rc1 9 fun K hK => ?_
      go_simp
      refine (most_any _ _ _ _).mono ?_; rintro e w' ⟨rfl, rfl⟩
      try go_wp2_with fail
      refine hK.out _ _ rfl (fun _ => ?_)
      clear hK K
      try (rw [put_some]; dsimp only [List.set])
      refine rt 10 47 rfl ?_ (hy := by intro w hS; subst hS; go_simp; try with_reducible rfl)
      refine rt 11 9 rfl ?_ (hy := by intro w hS; subst hS; go_simp; try with_reducible rfl)
      refine wpAnyH_done (by kernel_rfl) ?_ _
      refine NoPanic.normal ?_
      generalize ht2 : great 0 a + umost a b c = t2
      go_wp2_with (with_reducible refine wpList_store_row rfl 97 (.tmp 5) (.tmp 67) rfl (w.heap.size + 1 + 1 + 1) _ rfl rfl 97 _ hl3.out (by kernel_rfl) (by kernel_rfl) (by kernel_rfl) ?_)
      clear c0 c1 c2 c3 c4 c5 c6 c7 hix hC hT
      go_roundw
      case rel =>
        refine ⟨k + 1, by omega, by go_num, row_set_far p0.drew.drew _ hne0, row_set_far p2.drew.drew _ hne2, ?_, below_setRow hb.drew.drew hle3 _⟩
        rw [HR.out]
        have h := setRow_heap wr.drew.drew (w.heap.size + 1 + 1 + 1) _ #[Value.int IntKind.u32 (u (t1 + t2)), Value.int IntKind.u32 (u a), Value.int IntKind.u32 (u b), Value.int IntKind.u32 (u c), Value.int IntKind.u32 (u (d + t1)), Value.int IntKind.u32 (u e), Value.int IntKind.u32 (u f), Value.int IntKind.u32 (u g)] 97 (0, 0) hl3.out
        unfold roundS
        simp only [ht1, ht2]
        exact h
      case measure => simp [intOf]; omega
    · have e64 : k = 64 := by omega
      rw [e64] at p3
      clear e64 hT
      generalize hst : roundsS ws s 64 = st at *
      go_wp2_with fail
      have HST := Lib.hid hst
      clear hst
      have hsl : s.list.length = 8 := rfl
      rw [show words st.list = words (mixL (addS st s).list st.list 0) from rfl] at p3
      go_loopw [69] (fun i wr => ∃ k : Nat, k ≤ 8 ∧ i = .int .i64 k ∧ Row wr w.heap.size 97 xs ∧ Row wr (w.heap.size + 1 + 1) 97 (List.replicate 8 (.int .u32 0)) ∧ Row wr (w.heap.size + 1 + 1 + 1) 97 (words (mixL (addS st s).list st.list k)) ∧ Below w.heap.size w wr) (fun i _ => 8 - (intOf i).toNat)
      case atStart => exact ⟨0, by omega, rfl, p0, p2, p3, hb⟩
      case round =>
        clear p0 p2 p3 hb
        obtain ⟨i, hi, rfl, p0, p2, p3, hb⟩ := hrel
        by_cases hlt8 : i < 8
        · go_wp2_with fail
          have c1 := (p3.drew.cell i).trans (get_words _ i (by rw [length_mixL _ _ _ rfl rfl]; exact hlt8))
          rw [mixL_get _ _ _ rfl rfl hlt8] at c1
          have p0' := p0
          rw [HXS.out] at p0'
          have c2 := (p0'.drew.cell i).trans (get_words _ i (by rw [hsl]; exact hlt8))
          have hsum := addS_get st s i hlt8
          have hset := mixL_set (addS st s).list st.list i rfl rfl hlt8
          have hf := p3.drew.free i
          generalize st.list.getD i 0#32 = y at *
          generalize s.list.getD i 0#32 = z at *
          have n8 : (i : Int) < 8 := by omega
          refine wp_region_noPanic ?_
          refine wp_region_held_drew (S := fun w' => w'.cell? ⟨w.heap.size, i, none⟩ = some (.int .u32 (u z))) (by kernel_rfl) (c2) (fun hHeld => ?_)
          refine rt 0 72 hHeld ?_
          refine rt 3 75 hHeld ?_
          refine rt 1 73 hHeld ?_
          refine rt 4 76 hHeld ?_
          refine rt 5 77 hHeld ?_
          refine rc1 2 fun K hK => ?_
          go_simp
          refine hK.out _ _ (hHeld) (fun _ => ?_)
          clear hK K
          try (rw [put_some]; dsimp only [List.set])
          refine rt 6 78 hHeld ?_
          refine rt 7 79 hHeld ?_
          refine rc1 8 fun K hK => ?_
          go_simp
          refine hK.out _ _ (by exact (World.cell?_setCell_far _ _ _ _ (fun e => hne0 e.symm)).trans c2) (fun _ => ?_)
          clear hK K
          try (rw [put_some]; dsimp only [List.set])
          refine wpAnyH_done (by kernel_rfl) ?_ _
          refine NoPanic.normal ?_
          go_wp2_with fail
          go_roundw
          case rel =>
            refine ⟨i + 1, by omega, by go_num, (p0.far _ _ hne0).drew, (p2.far _ _ hne2).drew, ?_, (hb.setCell hle3 _).drew⟩
            have h := (p3.set i (.int .u32 (u (y + z)))).drew
            rw [← hsum, hset, hsum] at h
            exact h
          case measure => simp [intOf]; omega
        · have e8 : i = 8 := by omega
          rw [e8] at p3
          have hz : mixL (addS st s).list st.list 8 = (addS st s).list := rfl
          rw [hz] at p3
          have R3 := Lib.hid (show wr.heap[w.heap.size + 1 + 1 + 1]? = some (.cells (words (addS st s).list).toArray 97 (0, 0)) from p3)
          have R2 := Lib.hid (show wr.heap[w.heap.size + 1 + 1]? = some (.cells (List.replicate 8 (Value.int .u32 0)).toArray 97 (0, 0)) from p2)
          have hszf := Lib.hid (show (Tryd.prog.info? 97).map (·.size) = some (words (addS st s).list).toArray.size by rw [size8]; rfl)
          have hszo := Lib.hid (show (List.replicate 8 (Value.int .u32 0)).toArray.size = (words (addS st s).list).toArray.size by rw [List.size_toArray, List.size_toArray, List.length_replicate, length_words]; rfl)
          have honf := Lib.hid (all_one (words_one (addS st s).list))
          have hcomp : compS l s = addS (roundsS ws s 64) s := by unfold compS; rw [HWS.out]
          rw [HST.out] at hcomp
          have hW : words (compS l s).list = words (addS st s).list := by rw [hcomp]
          generalize words (addS st s).list = W8 at *
          have HW := Lib.hid hW
          clear p0 p2 p3 hz hcomp hW e8 hsl
          go_wp2_with (first
            | (with_reducible refine wpList_load_row rfl 97 (.tmp 5) rfl (w.heap.size + 1 + 1 + 1) rfl 97 W8.toArray (0, 0) (.array 8 89) R3.out Tryd.underlying97 rfl hszf.out ?_)
            | (with_reducible refine wpList_store_row rfl 97 (.tmp 4) (.tmp 81) rfl (w.heap.size + 1 + 1) W8.toArray rfl rfl 97 _ R2.out hszf.out hszo.out honf.out ?_; have HG := Lib.hid (setRow_heap wr (w.heap.size + 1 + 1) _ W8.toArray 97 (0, 0) R2.out))
            | (with_reducible refine bodyPost_ret (results_cell_row rfl _ _ (w.heap.size + 1 + 1) 97 W8.toArray (0, 0) (.array 8 89) rfl HG.out Tryd.underlying97 rfl hszf.out) rfl ?_))
          exact ⟨by rw [HW.out], below_setRow hb (by omega) _⟩
end Go.Proofs.YtnkkgclmmaakgaaDoor

/- LAYER 3: SHA-256 as a list function; a digest in memory; steps of regions on the middle of a block. -/
namespace Go.Proofs.YtnkkgclmmaakgaaDoor
set_option maxRecDepth 100000
open Go Go.RowKit

/-! ### Lists -/
/-- The eight words with which it begins. -/
def S0 : St := ⟨1779033703#32, 3144134277#32, 1013904242#32, 2773480762#32, 1359893119#32, 2600822924#32, 528734635#32, 1541459225#32⟩
/-- The k-th 64 bytes. -/
def blkAt (l : List UInt8) (k : Nat) : List UInt8 := (l.drop (64 * k)).take 64
/-- The eight words behind k blocks. -/
def stK (l : List UInt8) : Nat → St
  | 0 => S0
  | k + 1 => compS (blkAt l k) (stK l k)
theorem length_blkAt (l : List UInt8) (k : Nat) (h : 64 * (k + 1) ≤ l.length) : (blkAt l k).length = 64 := by
  unfold blkAt; rw [List.length_take, List.length_drop]; omega
theorem blkAt_append (l m : List UInt8) (k : Nat) (h : 64 * (k + 1) ≤ l.length) : blkAt (l ++ m) k = blkAt l k := by
  unfold blkAt
  rw [List.drop_append_of_le_length (by omega), List.take_append_of_le_length (by rw [List.length_drop]; omega)]
theorem stK_append (l m : List UInt8) (k : Nat) (h : 64 * k ≤ l.length) : stK (l ++ m) k = stK l k := by
  induction k with
  | zero => rfl
  | succ k ih => rw [stK, stK, ih (by omega), blkAt_append l m k h]
/-- All eight words behind the blocks of a message that is padded already. -/
def shaS (l : List UInt8) : St := stK (l ++ padL l.length) ((l.length + (padL l.length).length) / 64)
def wordsB (s : List (BitVec 32)) : List UInt8 := s.flatMap bytesL
/-- SHA-256. -/
def shaL (l : List UInt8) : List UInt8 := wordsB (shaS l).list
theorem length_shaL (l : List UInt8) : (shaL l).length = 32 := rfl
theorem padded_mod (l : List UInt8) : (l.length + (padL l.length).length) % 64 = 0 := by
  rw [length_padL]; unfold noughts; omega

/-! ### A digest -/
/-- The open block holds what is behind the full ones. -/
def Opn (l o : List UInt8) : Prop := o.length = 64 ∧ o.take (l.length % 64) = l.drop (64 * (l.length / 64))
def digV (s : St) (o : List UInt8) (m : Nat) : List Value := words s.list ++ (byts o ++ [.int .u64 m])
/-- Block g is a digest to which l was written. -/
def Dgt (w : World) (g : Nat) (l : List UInt8) : Prop := 1 < g ∧ ∃ o, Opn l o ∧ Row w g 99 (digV (stK l (l.length / 64)) o l.length)
theorem opn_nil : Opn [] (List.replicate 64 0) := ⟨by simp, by simp⟩
theorem splice_take {o c : List UInt8} {r : Nat} (hr : r ≤ o.length) : (splice o r c).take (r + c.length) = o.take r ++ c := by
  unfold splice
  rw [← List.append_assoc, List.take_append_of_le_length (by rw [List.length_append, List.length_take]; omega), List.take_of_length_le (by rw [List.length_append, List.length_take]; omega)]
theorem opn_take {l o : List UInt8} (c : List UInt8) (h : Opn l o) : (splice o (l.length % 64) c).take (l.length % 64 + c.length) = (l ++ c).drop (64 * (l.length / 64)) := by
  rw [splice_take (by rw [h.1]; omega), h.2, List.drop_append_of_le_length (by omega)]
theorem opn_more {l o c : List UInt8} (h : Opn l o) (hc : l.length % 64 + c.length < 64) :
    Opn (l ++ c) (splice o (l.length % 64) c) ∧ stK (l ++ c) ((l ++ c).length / 64) = stK l (l.length / 64) := by
  have e1 : (l ++ c).length / 64 = l.length / 64 := by rw [List.length_append]; omega
  have e2 : (l ++ c).length % 64 = l.length % 64 + c.length := by rw [List.length_append]; omega
  refine ⟨⟨by rw [length_splice _ _ _ (by rw [h.1]; omega), h.1], ?_⟩, ?_⟩
  · rw [e1, e2, opn_take c h]
  · rw [e1, stK_append _ _ _ (by omega)]
theorem opn_full {l o c : List UInt8} (h : Opn l o) (hc : l.length % 64 + c.length = 64) :
    Opn (l ++ c) (splice o (l.length % 64) c) ∧ stK (l ++ c) ((l ++ c).length / 64) = compS (splice o (l.length % 64) c) (stK l (l.length / 64)) := by
  have e1 : (l ++ c).length / 64 = l.length / 64 + 1 := by rw [List.length_append]; omega
  have e2 : (l ++ c).length % 64 = 0 := by rw [List.length_append]; omega
  have hl : (splice o (l.length % 64) c).length = 64 := by rw [length_splice _ _ _ (by rw [h.1]; omega), h.1]
  have hd : (l ++ c).drop (64 * (l.length / 64)) = splice o (l.length % 64) c := by
    rw [← opn_take c h, List.take_of_length_le (by rw [hl]; omega)]
  refine ⟨⟨hl, ?_⟩, ?_⟩
  · rw [e1, e2, List.take_zero, List.drop_of_length_le (by rw [List.length_append]; omega)]
  · rw [e1, stK, blkAt, hd, List.take_of_length_le (by rw [hl]; exact Nat.le_refl _), stK_append _ _ _ (by omega)]

/-! ### The cells of a digest -/
theorem length_list (s : St) : s.list.length = 8 := rfl
theorem length_digV (s : St) (o : List UInt8) (m : Nat) (ho : o.length = 64) : (digV s o m).length = 73 := by
  unfold digV; simp [length_words, length_byts, ho, length_list]
theorem digV_many (s : St) (o : List UInt8) (m : Nat) (ho : o.length = 64) : (digV s o m)[72]? = some (.int .u64 m) := by
  unfold digV
  rw [List.getElem?_append_right (by rw [length_words, length_list]; omega), List.getElem?_append_right (by rw [length_words, length_byts, length_list]; omega)]
  simp [length_words, length_byts, ho, length_list]
theorem digV_set (s : St) (o : List UInt8) (m n : Nat) (ho : o.length = 64) : (digV s o m).set 72 (.int .u64 n) = digV s o n := by
  unfold digV
  rw [List.set_append_right _ _ (by rw [length_words, length_list]; omega), List.set_append_right _ _ (by rw [length_words, length_byts, length_list]; omega)]
  simp [length_words, length_byts, ho, length_list]
theorem splice_mid {α : Type} (A B C D : List α) (r : Nat) (h : r + D.length ≤ B.length) : splice (A ++ (B ++ C)) (A.length + r) D = A ++ (splice B r D ++ C) := by
  unfold splice
  rw [List.take_length_add_append, List.take_append_of_le_length (by omega), Nat.add_assoc, List.drop_length_add_append, List.drop_append_of_le_length h]
  simp
theorem byts_splice (o c : List UInt8) (r : Nat) : byts (splice o r c) = splice (byts o) r (byts c) := by
  unfold splice
  rw [byts_append, byts_append, length_byts]
  unfold byts; rw [List.map_take, List.map_drop]
theorem digV_copy (s : St) (o c : List UInt8) (m r : Nat) (ho : o.length = 64) (h : r + c.length ≤ 64) : splice (digV s o m) (8 + r) (byts c) = digV s (splice o r c) m := by
  unfold digV
  have := splice_mid (words s.list) (byts o) [.int .u64 m] (byts c) r (by rw [length_byts, length_byts]; omega)
  rw [length_words, length_list] at this
  rw [this, byts_splice]
theorem digV_words (s t : St) (o : List UInt8) (m : Nat) : splice (digV s o m) 0 (words t.list) = digV t o m := by
  unfold digV splice
  rw [List.take_zero, List.nil_append, Nat.zero_add, length_words, length_list]
  congr 1
theorem digV_range0 {w : World} {g : Nat} {t : TypeId} {s : St} {o : List UInt8} {m : Nat} (h : Row w g t (digV s o m)) : w.rangeAt g 0 (words s.list) :=
  range_of_row (A := []) h
theorem digV_range8 {w : World} {g : Nat} {t : TypeId} {s : St} {o : List UInt8} {m : Nat} (h : Row w g t (digV s o m)) : w.rangeAt g 8 (byts o) := by
  have := range_of_row (A := words s.list) h
  rwa [length_words, length_list] at this

/-! ### One block alone is written -/
theorem Dgt.lt {w : World} {g : Nat} {l : List UInt8} (h : Dgt w g l) : g < w.heap.size := by
  obtain ⟨_, o, _, h⟩ := h; exact h.lt
theorem Dgt.later {w w' : World} {g : Nat} {l : List UInt8} {B : Nat} (h : Dgt w g l) (hb : Below B w w') (hg : g < B) : Dgt w' g l := by
  obtain ⟨hq, o, ho, h⟩ := h; exact ⟨hq, o, ho, h.later hb hg⟩
theorem Dgt.grown {w w' : World} {g k : Nat} {l : List UInt8} (h : Dgt w g l) (hg : w.grownBy w' (some k)) (hne : g ≠ k) : Dgt w' g l := by
  obtain ⟨hq, o, ho, h⟩ := h; exact ⟨hq, o, ho, h.grown hg hne⟩
theorem Dgt.many {w : World} {g : Nat} {l : List UInt8} (h : Dgt w g l) : w.cell? ⟨g, 72, none⟩ = some (.int .u64 l.length) := by
  obtain ⟨_, o, ho, h⟩ := h
  exact (h.cell 72).trans (digV_many _ _ _ ho.1)
/-- Behind a whole number of blocks the words are what they came to. -/
theorem Dgt.range {w : World} {g : Nat} {l : List UInt8} (h : Dgt w g (l ++ padL l.length)) : w.rangeAt g 0 (words (shaS l).list) := by
  obtain ⟨_, o, _, h⟩ := h
  rw [List.length_append] at h
  exact digV_range0 h
theorem Cube.grown {w w' : World} {k : Nat} (h : Cube w) (hg : w.grownBy w' (some k)) (hne : 1 < k) : Cube w' :=
  ⟨fun i hi => by rw [World.cell?_of_block (w := w) (hg.block 1 h.size (fun e => by have := Option.some.inj e; omega))]; exact h.at_ i hi⟩
theorem blkAt_cut (l : List UInt8) (k : Nat) : (byts l).drop (64 * k) = byts (blkAt l k) ++ byts (l.drop (64 * k + 64)) := by
  rw [← byts_append]
  unfold blkAt byts
  rw [← List.drop_drop, List.take_append_drop, List.map_drop]
end Go.Proofs.YtnkkgclmmaakgaaDoor

/- LAYER 3: package digest's New, Clone, Len. -/
namespace Go.Proofs.YtnkkgclmmaakgaaDoor
set_option maxRecDepth 100000
open Go Go.RowKit

/-- The call gave a digest of its own to which l was written; what was there before is as it was. -/
def GaveDig (l : List UInt8) (w : World) (e : Ending) (w' : World) : Prop :=
  ∃ g, e = .returned (.pointer (some ⟨g, 0, none⟩)) ∧ w.heap.size ≤ g ∧ Dgt w' g l ∧ Below w.heap.size w w'
theorem size_dig : (Tryd.prog.info? 99).map (·.size) = some 73 := by kernel_rfl
theorem build_dig (w : World) : (Instr.build 99 #[(0, startV)]).run Tryd.prog w = .ok (.agg (digV S0 (List.replicate 64 0) 0).toArray) w := by kernel_rfl
theorem wpList_build1 {P : Program} {w : World} {ops : Array Oper} {rest : List Oper} {o : Oper} {a : Act} {Q : Exit → Act → World → Prop} (hgd : o.guard = none) (t : TypeId) (x : Operand) (ho : o.op = .build t #[(0, x)])
    (v r : Value) (hx : a.eval x = v) (hrun : (Instr.build t #[(0, v)]).run P w = .ok r w) (h : wpList P ops Q rest (a.put o.dst r) w) : wpList P ops Q (o :: rest) a w := by
  refine wpList_plain hgd fun K hK => ?_
  unfold Oper.wp execOp
  simp only [ho, Sem.run_bind, Sem.run_pure, List.map_toArray, List.map_cons, List.map_nil, hx, hrun, Result.andThen_ok]
  exact hK _ _ h
theorem new_any (w : World) (hT : Tabs w) :
    Calls Tryd.prog 62 #[] w (GaveDig [] w) := by
  have hb := Lib.hid build_dig
  obtain ⟨V, hV⟩ : ∃ V, V = digV S0 (List.replicate 64 0) 0 := ⟨_, rfl⟩
  rw [← hV] at hb
  have HV := Lib.hid hV
  clear hV
  go_enter Tryd.func62, Tryd.ntmps62
  go_wp2_with (first
    | (go_at_call 68; refine (start_any _ hT.sq).mono ?_; rintro e w1 ⟨rfl, hbel⟩)
    | (with_reducible refine wpList_build1 rfl 99 (.tmp 1) rfl startV _ rfl (hb.out _) ?_))
  go_ret
  refine ⟨w1.heap.size, rfl, hbel.size, ⟨Nat.lt_of_lt_of_le hT.cu.size hbel.size, List.replicate 64 0, opn_nil, ?_⟩, hbel.alloc hbel.size _⟩
  have := Row.new w1 99 V
  rw [HV.out] at this ⊢
  exact this
theorem dig_one (s : St) (o : List UInt8) (m : Nat) : ∀ v ∈ digV s o m, v.oneCell' = true := by
  intro v hv
  unfold digV at hv
  rcases List.mem_append.1 hv with h | h
  · exact words_one _ v h
  · rcases List.mem_append.1 h with h | h
    · exact byts_one _ v h
    · rw [List.mem_singleton] at h; subst h; rfl
theorem zero_dig (w : World) : (zeroValue 99).run Tryd.prog w = .ok (.agg (digV ⟨0#32, 0#32, 0#32, 0#32, 0#32, 0#32, 0#32, 0#32⟩ (List.replicate 64 0) 0).toArray) w := by kernel_rfl
theorem clone_any (g : Nat) (l : List UInt8) (w : World) (hd : Dgt w g l) :
    Calls Tryd.prog 54 #[.pointer (some ⟨g, 0, none⟩)] w (GaveDig l w) := by
  obtain ⟨hq, o, ho, hr⟩ := hd
  obtain ⟨V, hV⟩ : ∃ V, V = digV (stK l (l.length / 64)) o l.length := ⟨_, rfl⟩
  rw [← hV] at hr
  have hl : V.length = 73 := by rw [hV, length_digV _ _ _ ho.1]
  have R := Lib.hid (show w.heap[g]? = some (.cells V.toArray 99 (0, 0)) from hr)
  have hsz := Lib.hid (show (Tryd.prog.info? 99).map (·.size) = some V.toArray.size by rw [size_dig, List.size_toArray, hl])
  have h73 := Lib.hid (show 73 = V.toArray.size by rw [List.size_toArray, hl])
  have hone := Lib.hid (all_one (show ∀ v ∈ V, v.oneCell' = true by rw [hV]; exact dig_one _ _ _))
  have HV := Lib.hid hV
  obtain ⟨Z, hZl, hZ⟩ : ∃ Z : Array Value, Z.size = 73 ∧ ∀ w, (zeroValue 99).run Tryd.prog w = .ok (.agg Z) w := ⟨_, by rw [List.size_toArray, length_digV _ _ _ (by simp)], zero_dig⟩
  have HZ := Lib.hid (hZl.trans h73.out)
  have hlt := hr.lt
  clear hV hl hr hZl
  go_enter Tryd.func54, Tryd.ntmps54
  go_wp2_with (first
    | (with_reducible refine wpList_load_row rfl 99 (.tmp 5) rfl g rfl 99 V.toArray (0, 0) _ R.out Tryd.underlying99 rfl hsz.out ?_)
    | (with_reducible refine wpList_store_row rfl 99 (.tmp 3) (.tmp 6) rfl w.heap.size V.toArray rfl rfl 99 _ (heap_alloc_new w _) hsz.out HZ.out hone.out ?_; refine Hid.out ?_))
  refine Lib.hid ?_
  generalize hw1 : World.setRow _ _ _ = w1
  obtain ⟨r1, hb1⟩ := row_new_set (xs := V) hw1
  clear hw1 hZ
  go_wp2
  go_ret
  refine ⟨w.heap.size, rfl, Nat.le_refl _, ⟨Nat.lt_trans hq hlt, o, ho, ?_⟩, hb1⟩
  rw [← HV.out]; exact r1
end Go.Proofs.YtnkkgclmmaakgaaDoor

/- LAYER 3: package digest's Write. -/
namespace Go.Proofs.YtnkkgclmmaakgaaDoor
set_option maxRecDepth 100000
open Go Go.RowKit

/-- The length of a slice, for a measure. -/
def lenSl : Value → Nat
  | .slice _ n _ => n
  | _ => 0
set_option maxRecDepth 100000 in
set_option maxHeartbeats 1000000 in
theorem write_any (g : Nat) (l b : List UInt8) (A : Option Addr) (c : Nat) (w : World) (hT : Cube w) (hd : Dgt w g l) (hs : Sl w A c (byts b)) (hA : 0 < b.length → ∀ a, A = some a → a.block ≠ g) (hm : l.length + b.length ≤ 4611686018427387904) :
    Calls Tryd.prog 52 #[.pointer (some ⟨g, 0, none⟩), .slice A b.length c] w fun e w' => e = .returned (.tuple #[]) ∧ Dgt w' g (l ++ b) ∧ w.grownBy w' (some g) := by
  have hcg := hd.1
  go_enter Tryd.func52, Tryd.ntmps52
  go_wp2_with fail
  go_loopw [1] (fun v wr => ∃ p d A' c', p ++ d = b ∧ v = .slice A' d.length c' ∧ Sl wr A' c' (byts d) ∧ (0 < d.length → ∀ a, A' = some a → a.block ≠ g) ∧ Dgt wr g (l ++ p) ∧ w.grownBy wr (some g)) (fun v _ => lenSl v)
  case atStart => exact ⟨[], b, A, c, rfl, rfl, hs, hA, by rw [List.append_nil]; exact hd, grown_refl _ _⟩
  case round =>
    clear hd hs hA
    obtain ⟨p, d, A', c', hpd, rfl, hs, hA, ⟨_, o, ho, hr⟩, hg⟩ := hrel
    by_cases hlt : 0 < d.length
    · obtain ⟨bb, oo, rfl, hbl, hcell⟩ := hs.rd.get (i := 0) (by rw [length_byts]; exact hlt)
      have hne := hA hlt _ rfl
      have hlen : (l ++ p).length + d.length ≤ 4611686018427387904 := by rw [← hpd] at hm; simp only [List.length_append] at hm ⊢; omega
      obtain ⟨q, hq⟩ : ∃ q, q = l ++ p := ⟨_, rfl⟩
      rw [← hq] at ho hr hlen
      obtain ⟨m, hmq⟩ : ∃ m, m = q.length := ⟨_, rfl⟩
      obtain ⟨s, hsq⟩ : ∃ s, s = stK q (m / 64) := ⟨_, rfl⟩
      rw [← hmq, ← hsq] at hr
      rw [← hmq] at hlen
      have c72 : wr.cell? ⟨g, 72, none⟩ = some (.int .u64 m) := (hr.cell 72).trans (digV_many _ _ _ ho.1)
      have f72 : wr.frozen? ⟨g, 72, none⟩ = false := hr.free 72
      obtain ⟨r, hrq⟩ : ∃ r, r = m % 64 := ⟨_, rfl⟩
      obtain ⟨C, hC⟩ : ∃ C, C = d.take (64 - r) := ⟨_, rfl⟩
      obtain ⟨D, hD⟩ : ∃ D, D = d.drop (64 - r) := ⟨_, rfl⟩
      have hCD : d = C ++ D := by rw [hC, hD, List.take_append_drop]
      obtain ⟨n, hn⟩ : ∃ n, n = C.length := ⟨_, rfl⟩
      have hmin : n = Nat.min d.length (64 - r) := by rw [hn, hC, List.length_take, Nat.min_comm]
      have hnd : n ≤ d.length := by rw [hmin]; exact Nat.min_le_left _ _
      have hn64' : n ≤ 64 - r := by rw [hmin]; exact Nat.min_le_right _ _
      have hn64 : r + n ≤ 64 := by omega
      have hn0 : 0 < n := by rw [hmin]; exact Nat.lt_min.2 ⟨hlt, by omega⟩
      have hend : r + n < 64 → n = d.length := fun h => by
        have : min d.length (64 - r) = n := hmin.symm
        omega
      have hDl : D.length = d.length - n := by rw [hCD, List.length_append, ← hn]; omega
      have hCs := Lib.hid (show ∀ j v, (byts C)[j]? = some v → wr.drew.cell? ((⟨bb, oo, none⟩ : Addr).add j) = some v by
        intro j v hj
        refine hs.rd.at_add j v ?_
        rw [hCD, byts_append, List.getElem?_append_left (List.getElem?_eq_some_iff.1 hj).1]; exact hj)
      have hCl := Lib.hid (show (byts C).length = n by rw [length_byts, hn])
      have hCn := Lib.hid hmin
      have hrn := Lib.hid (show r + C.length ≤ 64 by rw [← hn]; exact hn64)
      have hCf := Lib.hid (show 8 + r + (byts C).length ≤ (digV s o m).length by rw [length_byts, length_digV _ _ _ ho.1, ← hn]; omega)
      have hcap := hs.room
      rw [length_byts] at hcap
      obtain ⟨o1, ho1⟩ : ∃ o1, o1 = splice o r C := ⟨_, rfl⟩
      have hol := Lib.hid (show (splice o r C).length = 64 by rw [length_splice _ _ _ (by rw [ho.1, ← hn]; exact hn64), ho.1])
      have hr0 : r < 64 := by omega
      have hrem : (m : Int).tmod 64 = (r : Int) := by rw [Int.tmod_eq_emod_of_nonneg (by omega)]; omega
      have rb1 : (0 : Int) ≤ (r : Int) := by omega
      have rb2 : (r : Int) ≤ 64 := by omega
      have hr64 : ¬ (64 = r) := by omega
      have HP := Lib.hid hpd
      have HQ := Lib.hid hq
      have HM := Lib.hid hmq
      have HS' := Lib.hid (show s = stK q (q.length / 64) by rw [hsq, hmq])
      have HR := Lib.hid hrq
      have HC := Lib.hid hCD
      have HN := Lib.hid hn
      have HD := Lib.hid hDl
      have HO := Lib.hid ho1
      have HE := Lib.hid hend
      clear hpd hq hmq hsq hrq hCD hn hDl ho1 hA hcell hC hD hmin hend hn64'
      go_wp2_with fail
      refine wp_region_noPanic ?_
      refine wp_region_held_drew (S := fun w' => w'.cell? ⟨g, 72, none⟩ = some (.int .u64 m)) (by kernel_rfl) (c72) (fun hHeld => ?_)
      refine rt 0 8 hHeld ?_
      refine rt 1 9 hHeld ?_
      refine rt 2 10 hHeld ?_
      refine rt 3 11 hHeld ?_
      refine rt 4 12 hHeld ?_
      refine rt 5 13 hHeld ?_
      refine rt 6 14 hHeld ?_
      refine rt 7 15 hHeld ?_
      refine rt 8 16 hHeld ?_
      refine rt 9 17 hHeld ?_
      refine rc1 10 fun K hK => ?_
      refine step_copy_row (some 18) rfl (by rfl) (.tmp 16) (.tmp 17) 53 53 rfl 5 Tryd.underlying53 sizeByte g _ _ _ _ _ _ rfl rfl 99 _ hr.drew (byts C) n hCl.out hCn.out hCs.out hCf.out (byts_one _) ?_; intro w1 hr1 hg1; rw [digV_copy _ _ _ _ _ ho.1 hrn.out] at hr1; have c72a : w1.cell? ⟨g, 72, none⟩ = some (.int .u64 m) := (hr1.cell 72).trans (digV_many _ _ _ hol.out); have f72a : w1.frozen? ⟨g, 72, none⟩ = false := hr1.free 72
      refine rk hK (by exact c72a) fun hHeld => ?_
      clear hK K
      refine rt 11 4 hHeld ?_
      refine wpAnyH_done (by kernel_rfl) ?_ _
      refine NoPanic.normal ?_
      rw [← HO.out] at hr1 hol
      have hg1' : wr.grownBy w1 (some g) := ⟨hg1.os, hg1.tape, hg1.output, hg1.size, hg1.block⟩
      have hg1'' := grown_trans hg hg1'
      clear hrem rb1 rb2 hr64 hCs hCl hCn hCf hg1 c72 f72 hHeld
      have hn1 : (0 : Int) ≤ (n : Int) := by omega
      have hn2 : (n : Int) ≤ (d.length : Int) := by omega
      have wn : IntKind.u64.wrap (n : Int) = (n : Int) := by rw [IntKind.wrap_u64]; omega
      have wm : IntKind.u64.wrap ((m : Int) + (n : Int)) = (m : Int) + (n : Int) := by rw [IntKind.wrap_u64]; omega
      have hmr := HR.out
      obtain ⟨A2, hA2⟩ : ∃ A2 : Addr, A2 = if c' = n then ⟨bb, oo, none⟩ else ⟨bb, oo + n, none⟩ := ⟨_, rfl⟩
      have hslc : ∀ w, (Instr.sliceAt 53 (.slice (some ⟨bb, oo, none⟩) d.length c') (some (.int .i64 n)) none none).run Tryd.prog w = .ok (.slice (some A2) (d.length - n) (c' - n)) w := by
        intro w
        rw [hA2]
        go_simp
        split <;> rfl
      have HA2 := Lib.hid hA2
      clear hA2
      by_cases hfull : r + n = 64
      · have ht : ((m : Int) + (n : Int)) % 64 = 0 := by omega
        clear hmr
        go_wp2_with fail
        generalize hw2 : World.setCell w1 _ _ = w2
        have hr2 : Row w2 g 99 (digV s o1 (m + n)) := by
          have h := hr1.set 72 (.int .u64 ((m : Int) + (n : Int)))
          rw [hw2, ← Int.natCast_add, digV_set _ _ _ _ hol.out] at h; exact h
        have hg2 := grown_setCell w1 g 72 (.int .u64 ((m : Int) + (n : Int)))
        rw [hw2] at hg2
        have hg2' := grown_trans hg1' hg2
        have hg2'' := grown_trans hg hg2'
        have hrange0 := Lib.hid (digV_range0 hr2.drew)
        have hrange8 := Lib.hid (digV_range8 hr2.drew)
        have hCube : Cube w2.drew := cube_drew (hT.grown hg2'' hcg)
        have hsz8 := Lib.hid (show (Tryd.prog.info? 97).map (·.size) = some (words s.list).length by rw [size8, length_words, length_list])
        have hszc := Lib.hid (show (Tryd.prog.info? 97).map (·.size) = some (words (compS o1 s).list).length by rw [size8, length_words, length_list])
        have hszb := Lib.hid (show (Tryd.prog.info? 81).map (·.size) = some (byts o1).length by rw [size64b, length_byts, hol.out])
        have hfit8 := Lib.hid (show 0 + (words (compS o1 s).list).length ≤ (digV s o1 (m + n)).length by rw [length_words, length_list, length_digV _ _ _ hol.out]; omega)
        clear hg1' hg1'' hg2 c72a f72a hw2 ht
        refine wp_region_noPanic ?_
        refine wp_region_held_drew (S := fun w' => w'.rangeAt g 8 (byts o1)) (by kernel_rfl) (hrange8.out) (fun hHeld => ?_)
        refine rt 0 37 hHeld ?_
        refine rt 1 38 hHeld ?_
        refine rt 2 39 hHeld ?_
        refine rt 3 40 hHeld ?_
        refine rt 5 42 hHeld ?_
        refine rt 6 43 hHeld ?_
        refine rt 7 44 hHeld ?_
        refine rt 8 45 hHeld ?_ (hy := by intro w hS; exact run_load_op 81 (.tmp 44) rfl g 8 rfl (byts o1) _ hS Tryd.underlying81 rfl hszb.out)
        refine rc1 4 fun K hK => ?_
        refine step_load_mid (some 41) rfl (by rfl) 97 (.tmp 40) rfl g 0 rfl (words s.list) _ hrange0.out Tryd.underlying97 rfl hsz8.out ?_
        refine rk hK (hHeld) fun hHeld => ?_
        clear hK K
        refine rc1 9 fun K hK => ?_
        go_simp
        refine (compress_any o1 hol.out s _ hCube).mono ?_; rintro e w3 ⟨rfl, hb3⟩
        try go_wp2_with fail
        refine hK.out _ _ (by exact digV_range8 (hr2.drew.later hb3 hr2.lt)) (fun hHeld => ?_)
        clear hK K
        refine rt 10 47 hHeld ?_
        refine rt 11 48 hHeld ?_
        refine rc1 12 fun K hK => ?_
        refine step_store_row none rfl (by rfl) 97 (.tmp 48) (.tmp 46) rfl g 0 99 _ (words (compS o1 s).list) rfl rfl (hr2.drew.later hb3 hr2.lt) hfit8.out hszc.out (words_one _) ?_; intro w4 hr4 hg4; rw [digV_words] at hr4
        refine hK.out _ _ (by exact digV_range8 hr4) (fun _ => ?_)
        clear hK K
        rw [put_none]
        refine wpAnyH_done (by kernel_rfl) ?_ _
        refine NoPanic.normal ?_
        have hgA := grown_trans hg2' (grown_trans (grown_of_below (w := w2) ⟨hb3.os, hb3.tape, hb3.output, hb3.size, hb3.block⟩ _) hg4)
        clear hrange0 hrange8 hCube hsz8 hszc hszb hfit8 hHeld hslc
        go_wp2_with fail
        go_roundw
        case rel =>
          have e1 : q.length % 64 = r := by rw [← HM.out]; exact HR.out.symm
          obtain ⟨k1, k2⟩ := opn_full (c := C) ho (by rw [e1, ← HN.out]; omega)
          rw [e1, ← HO.out] at k1 k2
          refine ⟨p ++ C, D, some A2, c' - n, ?_, by rw [HD.out], ?_, ?_, ⟨hcg, o1, ?_, ?_⟩, grown_trans hg hgA⟩
          · rw [List.append_assoc, ← HC.out]; exact HP.out
          · have h := hs.from (k := n) (by rw [length_byts]; omega) HA2.out
            have e : (byts d).drop n = byts D := by
              rw [HC.out, byts_append, HN.out, ← length_byts]; exact List.drop_left
            rw [e] at h
            exact h.apart hgA (fun _ a ha => by cases ha; rw [from_block HA2.out]; exact hne)
          · intro _ a ha
            cases ha
            rw [from_block HA2.out]; exact hne
          · rw [← List.append_assoc, ← HQ.out]; exact k1
          · rw [← List.append_assoc, ← HQ.out, k2, ← HS'.out, List.length_append, ← HN.out, ← HM.out]
            exact hr4
        case measure => simp [lenSl]; omega
      · have ht : (((m : Int) + (n : Int)) % 64 == 0) = false := by simp; omega
        clear hmr
        go_wp2_with fail
        generalize hw2 : World.setCell w1 _ _ = w2
        have hr2 : Row w2 g 99 (digV s o1 (m + n)) := by
          have h := hr1.set 72 (.int .u64 ((m : Int) + (n : Int)))
          rw [hw2, ← Int.natCast_add, digV_set _ _ _ _ hol.out] at h; exact h
        have hg2 := grown_setCell w1 g 72 (.int .u64 ((m : Int) + (n : Int)))
        rw [hw2] at hg2
        have hg2' := grown_trans hg1' hg2
        have hg2'' := grown_trans hg hg2'
        go_roundw
        case rel =>
          have e1 : q.length % 64 = r := by rw [← HM.out]; exact HR.out.symm
          obtain ⟨k1, k2⟩ := opn_more (c := C) ho (by rw [e1, ← HN.out]; omega)
          rw [e1, ← HO.out] at k1
          refine ⟨p ++ C, D, some A2, c' - n, ?_, by rw [HD.out], ?_, ?_, ⟨hcg, o1, ?_, ?_⟩, hg2''⟩
          · rw [List.append_assoc, ← HC.out]; exact HP.out
          · have h := hs.from (k := n) (by rw [length_byts]; omega) HA2.out
            have e : (byts d).drop n = byts D := by
              rw [HC.out, byts_append, HN.out, ← length_byts]; exact List.drop_left
            rw [e] at h
            exact h.apart hg2' (fun _ a ha => by cases ha; rw [from_block HA2.out]; exact hne)
          · intro _ a ha
            cases ha
            rw [from_block HA2.out]; exact hne
          · rw [← List.append_assoc, ← HQ.out]; exact k1
          · rw [← List.append_assoc, ← HQ.out, k2, ← HS'.out, List.length_append, ← HN.out, ← HM.out]
            exact hr2
        case measure => simp [lenSl]; omega
    · have hd0 : d = [] := List.eq_nil_of_length_eq_zero (by omega)
      subst hd0
      rw [List.append_nil] at hpd
      subst hpd
      go_wp2_with fail
      go_end0
      exact ⟨rfl, ⟨hcg, o, ho, hr⟩, hg⟩
end Go.Proofs.YtnkkgclmmaakgaaDoor

/- LAYER 3: package digest's Sum. -/
namespace Go.Proofs.YtnkkgclmmaakgaaDoor
set_option maxRecDepth 100000
open Go Go.RowKit

theorem index8 (ws : List (BitVec 32)) (hl : ws.length = 8) (k : Nat) (hk : k < 8) (w : World) :
    (Instr.index 97 (.agg (words ws).toArray) (.int .i64 k)).run Tryd.prog w = .ok (.int .u32 (u (ws.getD k 0#32))) w := by
  have hc : (words ws).toArray[k]? = some (.int .u32 (u (ws.getD k 0#32))) := by
    rw [List.getElem?_toArray, get_words _ _ (by omega)]
  have h1 : (Go.part 89 (words ws).toArray k).run Tryd.prog w = .ok (.int .u32 (u (ws.getD k 0#32))) w := by
    simp only [Go.part, isAgg, Sem.run_bind, run_underlying Tryd.underlying89, Result.andThen_ok, Sem.run_pure, hc]
    rfl
  simp [Instr.index, asIntOf, run_underlying Tryd.underlying97, hk, h1]
theorem length_wordsB (ws : List (BitVec 32)) : (wordsB ws).length = 4 * ws.length := by
  unfold wordsB
  induction ws with
  | nil => rfl
  | cons x ws ih => rw [List.flatMap_cons, List.length_append, ih]; simp [bytesL]; omega
theorem wordsB_succ (ws : List (BitVec 32)) (k : Nat) (h : k < ws.length) : wordsB (ws.take (k + 1)) = wordsB (ws.take k) ++ bytesL (ws.getD k 0#32) := by
  unfold wordsB
  rw [List.take_add_one, List.flatMap_append]
  simp [h]
theorem sum_splice (X : List UInt8) (x : BitVec 32) (k : Nat) (hX : X.length = 4 * k) (hk : k < 8) : splice (byts X ++ List.replicate (32 - 4 * k) (.int .u8 0)) (4 * k) (byts (bytesL x)) = byts (X ++ bytesL x) ++ List.replicate (32 - 4 * (k + 1)) (.int .u8 0) := by
  unfold splice
  rw [← hX, ← length_byts X, List.take_left, List.drop_length_add_append, List.drop_replicate, byts_append, length_byts, length_byts, show (bytesL x).length = 4 from rfl, List.append_assoc]
  congr 3
  omega
set_option maxRecDepth 100000 in
set_option maxHeartbeats 1000000 in
theorem sum_any (g : Nat) (l : List UInt8) (w : World) (hT : Cube w) (hd : Dgt w g l) (hm : l.length ≤ 2305843009213693952) :
    Calls Tryd.prog 53 #[.pointer (some ⟨g, 0, none⟩)] w fun e w' => e = .returned (.agg (byts (shaL l)).toArray) ∧ Below w.heap.size w w' := by
  have hs8 := Lib.hid size8
  have hpl := length_padL l.length
  have hpn := noughts_lt l.length
  have hml : l.length + (padL l.length).length ≤ 4611686018427387904 := by omega
  obtain ⟨ws, hws⟩ : ∃ ws, ws = (shaS l).list := ⟨_, rfl⟩
  have hwl : ws.length = 8 := by rw [hws]; rfl
  have hpm := padded_mod l
  have HW := Lib.hid hws
  have HPM := Lib.hid hpm
  have HPL := Lib.hid hpl
  have hsz8 := Lib.hid (show (Tryd.prog.info? 97).map (·.size) = some (words ws).length by rw [size8, length_words, hwl])
  have HWL := Lib.hid hwl
  clear hws hwl hpm hpl
  go_enter Tryd.func53, Tryd.ntmps53
  go_wp2_with (first
    | (go_at_call 54; refine (clone_any g l _ (hd.later ((Below.refl _ _).alloc (Nat.le_refl _) _) hd.lt)).mono ?_; rintro e w1 ⟨g1, rfl, hg1, hd1, hb1⟩; have hbA : Below w.heap.size w w1 := ((Below.refl _ _).alloc (Nat.le_refl _) _).trans (hb1.mono (by rw [World.size_alloc]; omega)); have r0 := (Row.new w 23 (List.replicate 32 (.int .u8 0))).later hb1 (Row.new w 23 (List.replicate 32 (.int .u8 0))).lt; have c72 := (hd.later hbA hd.lt).many; rw [World.size_alloc] at hg1; clear hb1)
    | (go_at_call 64; refine (pad_any l.length _).mono ?_; rintro e w2 ⟨v2, rfl, hown2, hb2⟩; obtain ⟨A2, c2, rfl, hl2, hsl2⟩ := Sl.of_own hown2)
    | (go_at_call 52; refine (write_any g1 l (padL l.length) A2 c2 _ (hT.later (hbA.trans (hb2.mono hbA.size)) (Nat.le_refl _)) (hd1.later hb2 hd1.lt) hsl2 (fun _ a ha => own_apart hown2 hd1.lt a ha) hml).mono ?_; rintro e w3 ⟨rfl, hd3, hg3⟩; have hr3 := Lib.hid (show ∀ ob, (w3.alloc ob).rangeAt g1 0 (words ws) from fun ob => by rw [HW.out]; exact World.rangeAt_alloc hd3.range ob))
    | (with_reducible refine wpList_load_mid rfl 97 (.tmp 18) rfl g1 0 rfl (words ws) _ (hr3.out _) Tryd.underlying97 rfl hsz8.out ?_))
  have hbB := hbA.trans (hb2.mono hbA.size)
  have hbC : Below w.heap.size w w3 := hbB.grown hg3 hbB.size (fun k h => by cases h; omega)
  have r3 := (r0.later hb2 r0.lt).grown hg3 (by omega)
  have hlt3 := r3.lt
  have hnew := Row.new w3 23 (List.replicate 32 (.int .u8 0))
  have hb4 := hbC.alloc hbC.size (.cells (List.replicate 32 (Value.int .u8 0)).toArray 23)
  have r4 := r3.later ((Below.refl _ w3).alloc (Nat.le_refl _) (.cells (List.replicate 32 (Value.int .u8 0)).toArray 23)) hlt3
  clear hd1 hbA r0 c72 hb2 hown2 hl2 hsl2 hd3 hg3 hr3 hd hT hbB hbC r3 hg1
  go_loopw [20] (fun i wr => ∃ k : Nat, k ≤ 8 ∧ i = .int .i64 k ∧ Row wr w3.heap.size 23 (byts (wordsB (ws.take k)) ++ List.replicate (32 - 4 * k) (.int .u8 0)) ∧ Row wr w.heap.size 23 (List.replicate 32 (.int .u8 0)) ∧ Below w.heap.size w wr) (fun i _ => 8 - (intOf i).toNat)
  case atStart => exact ⟨0, by omega, rfl, hnew, r4, hb4⟩
  case round =>
    clear hnew r4 hb4
    obtain ⟨k, hk, rfl, hrow, r0, hb⟩ := hrel
    by_cases hlt : k < 8
    · have hix := index8 ws HWL.out k hlt
      have hI0 : IntKind.i64.wrap (4 * (k : Int)) = 4 * (k : Int) := by rw [IntKind.wrap_i64]; omega
      have hI1 : (0 : Int) ≤ 4 * (k : Int) := by omega
      have hI2 : 4 * (k : Int) ≤ 32 := by omega
      have hI3 : ¬ (32 = 4 * k) := by omega
      have hI4 : (4 * (k : Int)).toNat = 4 * k := by omega
      obtain ⟨X, hX⟩ : ∃ X, X = wordsB (ws.take k) := ⟨_, rfl⟩
      have hXl : X.length = 4 * k := by rw [hX, length_wordsB, List.length_take, HWL.out]; omega
      have HXS := Lib.hid (show wordsB (ws.take (k + 1)) = X ++ bytesL (ws.getD k 0#32) by rw [hX]; exact wordsB_succ ws k (by rw [HWL.out]; exact hlt))
      rw [← hX] at hrow
      obtain ⟨x, hx⟩ : ∃ x, x = ws.getD k 0#32 := ⟨_, rfl⟩
      rw [← hx] at hix HXS
      have hmin := Lib.hid (show 4 = Nat.min 4 (32 - 4 * k) by show 4 = min 4 (32 - 4 * k); omega)
      have hfit := Lib.hid (show 4 * k + (byts (bytesL x)).length ≤ (byts X ++ List.replicate (32 - 4 * k) (Value.int .u8 0)).length by rw [List.length_append, length_byts, length_byts, List.length_replicate, hXl]; show 4 * k + 4 ≤ _; omega)
      have HXL := Lib.hid hXl
      clear hX hXl hx
      go_wp2_with fail
      refine wp_region_noPanic ?_
      refine wp_region_held_drew (S := fun _ => True) (by kernel_rfl) (trivial) (fun hHeld => ?_)
      refine rt 0 24 hHeld ?_
      refine rt 1 25 hHeld ?_
      refine rt 2 26 hHeld ?_
      refine rt 3 27 hHeld ?_
      refine rc1 4 fun K hK => ?_
      go_simp
      refine (put_at none 0 0 [] x _ rfl ⟨.inl rfl, Nat.le_refl _, fun _ => rfl⟩ (by simp)).mono ?_; rintro e w5 ⟨v5, rfl, hown5, hb5⟩; have hown5 : w5.ownsRow wr.drew.heap.size 5 1 v5 4 (byts (bytesL x)) := hown5; obtain ⟨g5, cap5, rfl, hg5, _⟩ := hown5.form (by omega)
      try go_wp2_with fail
      refine hK.out _ _ (trivial) (fun hHeld => ?_)
      clear hK K
      refine rc1 5 fun K hK => ?_
      refine step_copy_row (some 29) rfl (by rfl) (.tmp 26) (.tmp 28) 53 53 rfl 5 Tryd.underlying53 sizeByte w3.heap.size _ _ _ _ _ _ rfl rfl 23 _ (hrow.drew.later hb5 hrow.lt) (byts (bytesL x)) 4 (by rw [length_byts]; rfl) hmin.out (hown5.cells rfl) hfit.out (byts_one _) ?_; intro w6 hr6 hg6
      refine rk hK (trivial) fun _ => ?_
      clear hK K
      refine wpAnyH_done (by kernel_rfl) ?_ _
      refine NoPanic.normal ?_
      rw [sum_splice X x k HXL.out hlt] at hr6
      have r0' := (r0.drew.later hb5 r0.lt).grown hg6 (by omega)
      have hb' := (hb.drew.trans (hb5.mono hb.size)).grown hg6 (Nat.le_trans hb.size hb5.size) (fun k h => by cases h; omega)
      clear hb5 hown5 hg6 r0 hb hmin hfit hHeld hI0 hI1 hI2 hI3 hI4 hix hrow
      go_wp2_with fail
      go_roundw
      case rel => exact ⟨k + 1, by omega, by go_num, by rw [HXS.out]; exact hr6, r0', hb'⟩
      case measure => simp [intOf]; omega
    · have e8 : k = 8 := by omega
      rw [e8, List.take_of_length_le (by rw [HWL.out]; exact Nat.le_refl _), show 32 - 4 * 8 = 0 from rfl, List.replicate_zero, List.append_nil, HW.out] at hrow
      have hV : wordsB (shaS l).list = shaL l := rfl
      rw [hV] at hrow
      obtain ⟨V, hVq⟩ : ∃ V, V = byts (shaL l) := ⟨_, rfl⟩
      rw [← hVq] at hrow
      have hVl : V.length = 32 := by rw [hVq, length_byts]; rfl
      have hone := Lib.hid (all_one (show ∀ v ∈ V, v.oneCell' = true by rw [hVq]; exact byts_one _))
      have hsz := Lib.hid (show (Tryd.prog.info? 23).map (·.size) = some V.toArray.size by rw [size_tag, List.size_toArray, hVl])
      have hszo := Lib.hid (show (List.replicate 32 (Value.int .u8 0)).toArray.size = V.toArray.size by rw [List.size_toArray, List.size_toArray, List.length_replicate, hVl])
      have R1 := Lib.hid (show wr.heap[w3.heap.size]? = some (.cells V.toArray 23 (0, 0)) from hrow)
      have R0 := Lib.hid (show wr.heap[w.heap.size]? = some (.cells (List.replicate 32 (Value.int .u8 0)).toArray 23 (0, 0)) from r0)
      have HV := Lib.hid hVq
      clear hV hVq hVl hrow r0
      go_wp2_with (first
        | (with_reducible refine wpList_load_row rfl 23 (.tmp 4) rfl w3.heap.size rfl 23 V.toArray (0, 0) (.array 32 5) R1.out Tryd.underlying23 rfl hsz.out ?_)
        | ((with_reducible refine wpList_store_row rfl 23 (.tmp 2) (.tmp 31) rfl w.heap.size V.toArray rfl rfl 23 _ R0.out hsz.out hszo.out hone.out ?_); have HG := Lib.hid (setRow_heap wr w.heap.size _ V.toArray 23 (0, 0) R0.out))
        | (with_reducible refine bodyPost_ret (results_cell_row rfl _ _ w.heap.size 23 V.toArray (0, 0) (.array 32 5) rfl HG.out Tryd.underlying23 rfl hsz.out) rfl ?_))
      exact ⟨by rw [HV.out], below_setRow hb (Nat.le_refl _) _⟩
end Go.Proofs.YtnkkgclmmaakgaaDoor
