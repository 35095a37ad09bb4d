/- LAYER 4: HMAC as a list function; package hmac's whole and begun. -/
import Derived.Test.YtefbopgbikmohaaDoorDo
import Derived.Test.YtefbopgbikmohaaDoorZ
import Derived.Test.YtefbopgbikmohaaDoorDp
namespace Go.Proofs.YtefbopgbikmohaaDoor
open Go Go.RowKit

/-- A key as 64 bytes. -/
def shortL (k : List UInt8) : List UInt8 := if k.length ≤ 64 then k else shaL k
def keyL (k : List UInt8) : List UInt8 := shortL k ++ List.replicate (64 - (shortL k).length) 0
def xorL (x : UInt8) (l : List UInt8) : List UInt8 := l.map (· ^^^ x)
/-- HMAC of SHA-256. -/
def macL (k l : List UInt8) : List UInt8 := shaL (xorL 92 (keyL k) ++ shaL (xorL 54 (keyL k) ++ l))
theorem length_shortL (k : List UInt8) : (shortL k).length ≤ 64 := by
  unfold shortL
  split
  · assumption
  · rw [length_shaL]; omega
theorem length_keyL (k : List UInt8) : (keyL k).length = 64 := by
  unfold keyL
  have := length_shortL k
  rw [List.length_append, List.length_replicate]; omega
theorem length_xorL (x : UInt8) (l : List UInt8) : (xorL x l).length = l.length := by unfold xorL; simp
theorem length_macL (k l : List UInt8) : (macL k l).length = 32 := length_shaL _
/-- Bytes laid over 64 bytes 0. -/
theorem splice_zeros (s : List UInt8) : splice (List.replicate 64 (Value.int .u8 0)) 0 (byts s) = byts (s ++ List.replicate (64 - s.length) 0) := by
  unfold splice
  rw [List.take_zero, List.nil_append, Nat.zero_add, List.drop_replicate, byts_append, byts_zeros, length_byts]
theorem size_blk : (Tryd.prog.info? 49).map (·.size) = some 64 := by kernel_rfl
theorem parts_two {w : World} {A : Option Addr} {c : Nat} {l : List UInt8} (h : Sl w A c (byts l)) (X Y : Obj) : Parts (((w.alloc X).alloc Y).alloc (.cells #[.slice A l.length c] 27)) (some ⟨w.heap.size + 1 + 1, 0, none⟩) 1 [(A, c, l)] := by
  have h := parts_one (h.later (Nat.le_refl _) (below_two w X Y))
  rw [World.size_alloc, World.size_alloc] at h
  exact h
theorem getD_split (x : UInt8) (k : List UInt8) (j : Nat) (h : j < k.length) : (xorL x (k.take j) ++ k.drop j).getD j 0 = k.getD j 0 := by
  have hl : (xorL x (k.take j)).length = j := by rw [length_xorL, List.length_take]; omega
  rw [List.getD_eq_getElem?_getD, List.getElem?_append_right (by omega), hl, Nat.sub_self, List.getElem?_drop, Nat.add_zero, List.getD_eq_getElem?_getD]
theorem xor_succ (x : UInt8) (k : List UInt8) (j : Nat) (h : j < k.length) : (xorL x (k.take j) ++ k.drop j).set j (k.getD j 0 ^^^ x) = xorL x (k.take (j + 1)) ++ k.drop (j + 1) := by
  have hl : (xorL x (k.take j)).length = j := by rw [length_xorL, List.length_take]; omega
  have e : k.take (j + 1) = k.take j ++ [k[j]] := by rw [List.take_add_one]; simp [h]
  have g : k.getD j 0 = k[j] := by simp [h]
  rw [List.set_append_right _ _ (by omega), hl, Nat.sub_self, List.drop_eq_getElem_cons h, List.set_cons_zero, e, g]
  unfold xorL
  rw [List.map_append, List.append_assoc]
  rfl
set_option maxRecDepth 20000 in
set_option maxHeartbeats 1000000 in
theorem whole_any (A : Option Addr) (n c : Nat) (k : List UInt8) (w : World) (hT : Tabs w) (hs : Sl w A c (byts k)) (hn : n = k.length) (hm : k.length ≤ 2305843009213693952) :
    Calls Tryd.prog 22 #[.slice A n c] w fun e w' => e = .returned (.agg (byts (keyL k)).toArray) ∧ Below w.heap.size w w' := by
  subst hn
  obtain ⟨V, hVq⟩ : ∃ V, V = byts (keyL k) := ⟨_, rfl⟩
  have hVl : V.length = 64 := by rw [hVq, length_byts, length_keyL]
  have hone := Lib.hid (all_one (show ∀ v ∈ V, v.oneCell' = true by rw [hVq]; exact byts_one _))
  have hsz := Lib.hid (show (Tryd.prog.info? 49).map (·.size) = some V.toArray.size by rw [size_blk, List.size_toArray, hVl])
  have hszo := Lib.hid (show (List.replicate 64 (Value.int .u8 0)).toArray.size = V.toArray.size by rw [List.size_toArray, List.size_toArray, List.length_replicate, hVl])
  have HV := Lib.hid hVq
  by_cases h64 : k.length ≤ 64
  · have HSP := Lib.hid (show splice (List.replicate 64 (Value.int .u8 0)) 0 (byts k) = V by rw [hVq, splice_zeros]; unfold keyL shortL; rw [if_pos h64])
    have hcl : (byts k).length = Nat.min k.length 64 := by rw [length_byts]; show _ = min _ _; omega
    have hle := Lib.hid (show (byts k).length ≤ 64 by rw [length_byts]; exact h64)
    clear hVq hVl
    go_enter Tryd.func22, Tryd.ntmps22
    go_wp2_with (first
      | ((with_reducible refine wpList_copy_splice rfl (.tmp 8) (.tmp 9) 27 27 rfl 5 Tryd.underlying27 sizeByte _ _ _ _ _ _ rfl rfl (w.heap.size + 1) 0 _ _ (heap_alloc2_new w _ _) (byts k) hcl (fun h => ⟨rfl, (hs.later (Nat.le_refl _) (below_two w _ _)).hpos h⟩) (by simpa using hle.out) (byts_one _) (w.heap.size + 1) _ (Below.refl _ _) (Nat.le_refl _) ?_); intro w2 HG2 hB2; have R1 := Lib.hid (show w2.heap[w.heap.size + 1]? = some (.cells V.toArray 49 (0, 0)) by rw [← HSP.out]; exact HG2.out); have R0 := Lib.hid (show w2.heap[w.heap.size]? = some (.cells (List.replicate 64 (Value.int .u8 0)).toArray 49 (0, 0)) from (hB2.block _ (by omega)).trans (heap_alloc2_old w _ _)); have hb2 := (below_two w _ _).trans (hB2.mono (by omega)); clear HG2 hB2)
      | (with_reducible refine wpList_load_row rfl 49 (.tmp 3) rfl (w.heap.size + 1) rfl 49 V.toArray (0, 0) (.array 64 5) R1.out Tryd.underlying49 rfl hsz.out ?_)
      | ((with_reducible refine wpList_store_row rfl 49 (.tmp 2) (.tmp 11) rfl w.heap.size V.toArray rfl rfl 49 _ R0.out hsz.out hszo.out hone.out ?_); have HG := Lib.hid (setRow_heap w2 w.heap.size _ V.toArray 49 (0, 0) R0.out))
      | (with_reducible refine bodyPost_ret (results_cell_row rfl _ _ w.heap.size 49 V.toArray (0, 0) (.array 64 5) rfl HG.out Tryd.underlying49 rfl hsz.out) rfl ?_))
    exact ⟨by rw [HV.out], below_setRow hb2 (Nat.le_refl _) _⟩
  · have HSP := Lib.hid (show splice (List.replicate 64 (Value.int .u8 0)) 0 (byts (shaL k)) = V by rw [hVq, splice_zeros]; unfold keyL shortL; rw [if_neg h64])
    obtain ⟨X, hX⟩ : ∃ X, X = byts (shaL k) := ⟨_, rfl⟩
    have hXl : X.length = 32 := by rw [hX]; exact store_tag
    have honeX := Lib.hid (all_one (show ∀ v ∈ X, v.oneCell' = true by rw [hX]; exact byts_one _))
    have hszX := Lib.hid (show (Tryd.prog.info? 23).map (·.size) = some X.toArray.size by rw [size_tag, List.size_toArray, hXl])
    have h32 := Lib.hid (show 32 = X.toArray.size by rw [List.size_toArray, hXl])
    have HX := Lib.hid hX
    clear hVq hVl hX hXl
    go_enter Tryd.func22, Tryd.ntmps22
    go_wp2_with (first
      | (go_at_call 31; refine (of_any _ 1 1 [(A, c, k)] _ (hT.later ((below_two w _ _).alloc (by rw [World.size_alloc, World.size_alloc]; omega) _) (Nat.le_refl _)) (parts_two hs _ _) rfl (by rw [flat_one]; exact hm) (by simp)).mono ?_; rintro e w3 ⟨rfl, hb3⟩; rw [flat_one, ← HX.out]; obtain ⟨e0, e1, hbA, hz3⟩ := three_later hb3; have r0 : Row w3 w.heap.size 49 (List.replicate 64 (.int .u8 0)) := e0; have r1 : Row w3 (w.heap.size + 1) 49 (List.replicate 64 (.int .u8 0)) := e1; clear e0 e1 hb3)
      | (with_reducible refine wpList_store_row rfl 23 (.tmp 4) (.tmp 14) rfl w3.heap.size X.toArray rfl rfl 23 _ (heap_alloc_new w3 _) hszX.out (Eq.trans (by kernel_rfl) h32.out) honeX.out ?_; refine Hid.out ?_))
    refine Lib.hid ?_
    generalize hw4 : World.setRow _ _ _ = w4
    obtain ⟨r4, hb4⟩ := row_new_set (xs := X) hw4
    rw [HX.out] at r4
    have r0 := r0.later hb4 r0.lt
    have r1 := r1.later hb4 r1.lt
    have hbB := hbA.trans (hb4.mono hbA.size)
    have hsum : Sl w4 (some ⟨w3.heap.size, 0, none⟩) 32 (byts (shaL k)) := ⟨Rd.row (ys := []) (by rw [List.append_nil]; exact r4), by rw [store_tag]; exact Nat.le_refl _, fun h => by cases h⟩
    have hsum := hsum.later (Nat.le_refl _) ((Below.refl w4.heap.size w4).drew)
    have R1 := Lib.hid (show w4.drew.heap[w.heap.size + 1]? = some (.cells (List.replicate 64 (Value.int .u8 0)).toArray 49 (0, 0)) from r1)
    clear hw4 r4 hb4 hbA r1
    go_wp2_with fail
    refine wp_region_noPanic ?_
    refine wp_region_held_drew (S := fun _ => True) (by kernel_rfl) (trivial) (fun hHeld => ?_)
    refine rtake 0 _ (some 15) _ rfl rfl (by kernel_rfl) (by kernel_rfl) (by kernel_rfl) (fun _ _ _ h => h) (by rfl) hHeld (by intro w hS; go_simp; try with_reducible rfl) ?_
    try (first | (rw [put_some]; dsimp only [List.set]) | rw [put_none])
    refine rtake 1 _ (some 16) _ rfl rfl (by kernel_rfl) (by kernel_rfl) (by kernel_rfl) (fun _ _ _ h => h) (by rfl) hHeld (by intro w hS; go_simp; try with_reducible rfl) ?_
    try (first | (rw [put_some]; dsimp only [List.set]) | rw [put_none])
    refine wpAnyH_ready (rs := [2]) (by kernel_rfl) (by simp) (AllReadyH.cons (o := _) rfl (fun K hK => ?_) AllReadyH.nil)
    refine step_copy_row (some 17) rfl (by rfl) (.tmp 15) (.tmp 16) 27 27 rfl 5 Tryd.underlying27 sizeByte (w.heap.size + 1) 0 64 64 _ 32 32 rfl rfl 49 _ (show Row _ _ _ _ from R1.out) (byts (shaL k)) 32 store_tag (by decide) hsum.rd.at_add (by rw [store_tag, List.length_replicate]; decide) (byts_one _) ?_; intro w6 hr6 hg6
    refine hK.out _ _ (trivial) (fun _ => ?_)
    clear hK K
    try (first | (rw [put_some]; dsimp only [List.set]) | rw [put_none])
    refine wpAnyH_done (by kernel_rfl) ?_ _
    refine NoPanic.normal ?_
    rw [HSP.out] at hr6
    have R0 := Lib.hid (show w6.heap[w.heap.size]? = some (.cells (List.replicate 64 (Value.int .u8 0)).toArray 49 (0, 0)) from r0.drew.grown hg6 (by omega))
    have R1 := Lib.hid (show w6.heap[w.heap.size + 1]? = some (.cells V.toArray 49 (0, 0)) from hr6)
    have hb6 := hbB.drew.grown hg6 hbB.size (fun k h => by cases h; omega)
    clear hr6 hg6 hbB r0 hsum hHeld
    go_wp2_with (first
      | (with_reducible refine wpList_load_row rfl 49 (.tmp 3) rfl (w.heap.size + 1) rfl 49 V.toArray (0, 0) (.array 64 5) R1.out Tryd.underlying49 rfl hsz.out ?_)
      | ((with_reducible refine wpList_store_row rfl 49 (.tmp 2) (.tmp 18) rfl w.heap.size V.toArray rfl rfl 49 _ R0.out hsz.out hszo.out hone.out ?_); have HG := Lib.hid (setRow_heap w6 w.heap.size _ V.toArray 49 (0, 0) R0.out))
      | (with_reducible refine bodyPost_ret (results_cell_row rfl _ _ w.heap.size 49 V.toArray (0, 0) (.array 64 5) rfl HG.out Tryd.underlying49 rfl hsz.out) rfl ?_))
    exact ⟨by rw [HV.out], below_setRow hb6 (Nat.le_refl _) _⟩
set_option maxRecDepth 20000 in
set_option maxHeartbeats 1000000 in
theorem begun_any (k : List UInt8) (hk : k.length = 64) (x : UInt8) (w : World) (hT : Tabs w) :
    Calls Tryd.prog 23 #[.agg (byts k).toArray, .int .u8 (x.toNat : Int)] w (GaveDig (xorL x k) w) := by
  go_enter Tryd.func23, Tryd.ntmps23
  go_wp2
  go_loopw [7] (fun i wr => ∃ j : Nat, j ≤ 64 ∧ i = .int .i64 j ∧ Row wr w.heap.size 49 (byts (xorL x (k.take j) ++ k.drop j)) ∧ Below w.heap.size w wr) (fun i _ => 64 - (intOf i).toNat)
  case atStart => exact ⟨0, by omega, rfl, by simpa [xorL] using Row.new w 49 (byts k), (Below.refl _ w).alloc (Nat.le_refl _) _⟩
  case round =>
    obtain ⟨j, hj, rfl, hrow, hb⟩ := hrel
    by_cases hlt : j < 64
    · have hl : (xorL x (k.take j) ++ k.drop j).length = 64 := by rw [List.length_append, length_xorL, List.length_take, List.length_drop]; omega
      have HS := Lib.hid (xor_succ x k j (by omega))
      have hc : wr.cell? ⟨w.heap.size, j, none⟩ = some (.int .u8 ((k.getD j 0).toNat : Int)) := by
        rw [hrow.cell, get_byts _ _ (by omega), getD_split x k j (by omega)]
      have hfr := hrow.free j
      have hx := byte_xor (k.getD j 0) x
      generalize k.getD j 0 = y at *
      go_wp2
      go_roundw
      case rel =>
        refine ⟨j + 1, by omega, by go_num, ?_, hb.setCell (Nat.le_refl _) _⟩
        rw [← HS.out, ← byts_set, UInt8.toNat_xor]
        exact hrow.set j _
      case measure => simp [intOf]; omega
    · have e64 : j = 64 := by omega
      have hl : (xorL x k).length = 64 := by rw [length_xorL, hk]
      have el : xorL x (k.take j) ++ k.drop j = xorL x k := by rw [List.take_of_length_le (by omega), List.drop_of_length_le (by omega), List.append_nil]
      rw [el] at hrow
      have HL := Lib.hid hl
      generalize xorL x k = m at *
      have hTr := hT.later hb (Nat.le_refl _)
      clear hT hk el hl
      go_wp2_with (first
        | (go_at_call 32; refine (new_any _ hTr).mono ?_; rintro e w1 ⟨g, rfl, hg1, hd1, hb1⟩; have hbA := hb.trans (hb1.mono hb.size); have r1 := hrow.later hb1 hrow.lt; have hC1 := hTr.cu.later hb1 (Nat.le_refl _); have hne : w.heap.size < g := Nat.lt_of_lt_of_le hrow.lt hg1; clear hb1 hb hg1)
        | (go_at_call 24; refine (write_at g 64 [] m (some ⟨w.heap.size, 0, none⟩) 64 _ hC1 hd1 ⟨Rd.row (ys := []) (by rw [List.append_nil]; exact r1), by rw [length_byts, HL.out]; exact Nat.le_refl _, fun h => by cases h⟩ (fun _ a ha => by cases ha; show w.heap.size ≠ g; omega) HL.out.symm (by rw [HL.out]; decide)).mono ?_; rintro e w3 ⟨rfl, hd3, hg3⟩))
      go_ret
      exact ⟨g, rfl, by omega, hd3, hbA.grown hg3 hbA.size (fun k h => by cases h; omega)⟩
end Go.Proofs.YtefbopgbikmohaaDoor
