/- LAYER 12: the document's six: eight numbers as an address. -/
import Derived.Test.YtflebnbpoboljaaDoorIb
namespace Go.Proofs.YtflebnbpoboljaaDoor
set_option maxRecDepth 100000
open Go Go.RowKit

def bytes6 (l : List Nat) : List UInt8 := l.flatMap fun n => [UInt8.ofNat (n / 256), UInt8.ofNat (n % 256)]
theorem length_bytes6 (l : List Nat) : (bytes6 l).length = 2 * l.length := by
  unfold bytes6
  induction l with
  | nil => rfl
  | cons x t ih => rw [List.flatMap_cons, List.length_append, ih]; simp; omega
theorem bytes6_succ (l : List Nat) (k : Nat) (h : k < l.length) : bytes6 (l.take (k + 1)) = bytes6 (l.take k) ++ [UInt8.ofNat (l.getD k 0 / 256), UInt8.ofNat (l.getD k 0 % 256)] := by
  unfold bytes6
  rw [List.take_add_one, List.flatMap_append]
  simp [h]
def sixA (l : List Nat) : Adr := ⟨true, bytes6 l⟩
def zeroA : Adr := ⟨false, List.replicate 16 0⟩
theorem zeroA_ok : zeroA.Ok := rfl
set_option maxHeartbeats 2000000 in
theorem rsix_any (l : List Nat) (h8 : l.length = 8) (hm : ∀ n ∈ l, n ≤ 65535) (A : Option Addr) (c : Nat) (w : World) (hs : Sl w A c (intsV l)) :
    Calls Tryd.prog 38 #[.slice A 8 c] w fun e w' => e = .returned (.agg (adrV (sixA l)).toArray) ∧ Below w.heap.size w w' := by
  have hsz := Lib.hid (show (Tryd.prog.info? 24).map (·.size) = some (adrV (sixA l)).toArray.size by rw [size_adr, List.size_toArray, length_adrV (show (sixA l).Ok by show (bytes6 l).length = 16; rw [length_bytes6, h8])])
  go_enter Tryd.func38, Tryd.ntmps38
  go_wp2_with (with_reducible refine wpList_store_row rfl 24 (.tmp 3) (.tmp 6) rfl (w.heap.size + 1) _ rfl rfl 24 _ (heap_alloc2_new w _ _) (by kernel_rfl) (by kernel_rfl) (by kernel_rfl) ?_; refine Hid.out ?_)
  refine Lib.hid ?_
  generalize hw4 : World.setRow _ _ _ = w4
  obtain ⟨r0, r1, hb4⟩ := row_new_set2 hw4
  have r0 : Row w4 w.heap.size 24 (adrV zeroA) := r0
  have r1 : Row w4 (w.heap.size + 1) 24 ((.bool true :: byts (bytes6 (l.take 0))) ++ List.replicate (16 - 2 * 0) (.int .u8 0)) := r1
  clear hw4
  go_wp2_with fail
  go_loopw [9] (fun i wr => ∃ k : Nat, k ≤ 8 ∧ i = .int .i64 k ∧ Row wr (w.heap.size + 1) 24 ((.bool true :: byts (bytes6 (l.take k))) ++ List.replicate (16 - 2 * k) (.int .u8 0)) ∧ Row wr w.heap.size 24 (adrV zeroA) ∧ Below w.heap.size w wr) (fun i _ => 8 - (intOf i).toNat)
  case atStart => exact ⟨0, by omega, rfl, r1, r0, hb4⟩
  case round =>
    clear r0 r1 hb4
    obtain ⟨k, hk, rfl, hrow, hres, hb⟩ := hrel
    by_cases hlt : k < 8
    · have hlt' : (k : Int) < 8 := by omega
      have hlt2 : k < l.length := by omega
      obtain ⟨b, o, hA, -, -⟩ := hs.rd.get (i := k) (by rw [length_intsV]; exact hlt2)
      have hix := index_ints A b o 8 c k hA hlt
      have hce := ints_cell (by rw [hA] at hs; exact hs.later (Nat.le_refl _) hb) k hlt2
      have HS := Lib.hid (bytes6_succ l k hlt2)
      have hx : l.getD k 0 ≤ 65535 := hm _ (by rw [List.getD_eq_getElem?_getD, List.getElem?_eq_getElem hlt2]; exact List.getElem_mem hlt2)
      have hXl : (bytes6 (l.take k)).length = 2 * k := by rw [length_bytes6, List.length_take]; omega
      generalize bytes6 (l.take k) = X at *
      generalize l.getD k 0 = x at *
      have hI0 : IntKind.i64.wrap (2 * (k : Int)) = 2 * (k : Int) := by rw [IntKind.wrap_i64]; omega
      have hI1 : (0 : Int) ≤ 2 * (k : Int) := by omega
      have hI2 : 2 * (k : Int) < 16 := by omega
      have hI3 : (2 * (k : Int)).toNat = 2 * k := by omega
      have hJ0 : IntKind.i64.wrap (2 * (k : Int) + 1) = 2 * (k : Int) + 1 := by rw [IntKind.wrap_i64]; omega
      have hJ1 : (0 : Int) ≤ 2 * (k : Int) + 1 := by omega
      have hJ2 : 2 * (k : Int) + 1 < 16 := by omega
      have hJ3 : (2 * (k : Int) + 1).toNat = 2 * k + 1 := by omega
      have hq1 : IntKind.i64.wrap ((x : Int) / 256) = (x : Int) / 256 := by rw [IntKind.wrap_i64]; omega
      have hq2 : IntKind.u8.wrap ((x : Int) / 256) = ((UInt8.ofNat (x / 256)).toNat : Int) := by rw [IntKind.wrap_u8, UInt8.toNat_ofNat']; omega
      have hq3 : ((x : Int)).tmod 256 = (x : Int) % 256 := Int.tmod_eq_emod_of_nonneg (by omega)
      have hq4 : IntKind.u8.wrap ((x : Int) % 256) = ((UInt8.ofNat (x % 256)).toNat : Int) := by rw [IntKind.wrap_u8, UInt8.toNat_ofNat']; omega
      generalize UInt8.ofNat (x / 256) = p at *
      generalize UInt8.ofNat (x % 256) = q at *
      have hr0 : List.replicate (16 - 2 * k) (Value.int .u8 0) = .int .u8 0 :: .int .u8 0 :: List.replicate (16 - 2 * (k + 1)) (Value.int .u8 0) := by rw [show 16 - 2 * k = 16 - 2 * (k + 1) + 1 + 1 by omega]; rfl
      rw [hr0] at hrow
      have hhl : (Value.bool true :: byts X).length = 1 + 2 * k := by rw [List.length_cons, length_byts, hXl, Nat.add_comm]
      have hc1 : wr.cell? ⟨w.heap.size + 1, 1 + 2 * k, none⟩ = some (.int .u8 0) := by rw [hrow.cell, List.getElem?_append_right (by rw [hhl]; exact Nat.le_refl _), hhl, Nat.sub_self]; rfl
      have hc2 : wr.cell? ⟨w.heap.size + 1, 1 + (2 * k + 1), none⟩ = some (.int .u8 0) := by rw [hrow.cell, List.getElem?_append_right (by rw [hhl]; omega), hhl, show 1 + (2 * k + 1) - (1 + 2 * k) = 1 by omega]; rfl
      have hf1 := hrow.free (1 + 2 * k)
      have hf2 := hrow.free (1 + (2 * k + 1))
      have HL := Lib.hid hhl
      clear hr0 hXl hA hs hhl
      go_wp2
      go_roundw
      case rel =>
        refine ⟨k + 1, by omega, by go_num, ?_, ?_, ?_⟩
        · have h := (hrow.set (1 + 2 * k) (.int .u8 (p.toNat : Int))).set (1 + (2 * k + 1)) (.int .u8 (q.toNat : Int))
          have e : (Value.bool true :: byts (X ++ [p, q])) ++ List.replicate (16 - 2 * (k + 1)) (Value.int .u8 0) = (((Value.bool true :: byts X) ++ .int .u8 0 :: .int .u8 0 :: List.replicate (16 - 2 * (k + 1)) (Value.int .u8 0)).set (1 + 2 * k) (.int .u8 (p.toNat : Int))).set (1 + (2 * k + 1)) (.int .u8 (q.toNat : Int)) := by
            rw [show 1 + (2 * k + 1) = 1 + 2 * k + 1 from rfl, set_two _ _ _ HL.out, byts_append]; rfl
          rw [HS.out, e]
          exact h
        · exact (hres.grown (grown_setCell _ _ _ _) (by omega)).grown (grown_setCell _ _ _ _) (by omega)
        · exact (hb.grown (grown_setCell _ _ _ _) hb.size (fun k h => by cases h; omega)).grown (grown_setCell _ _ _ _) (by rw [World.size_setCell]; exact hb.size) (fun k h => by cases h; omega)
      case measure => simp [intOf]; omega
    · obtain rfl : k = 8 := by omega
      have hrow : Row wr (w.heap.size + 1) 24 (adrV (sixA l)) := by
        rw [show 16 - 2 * 8 = 0 from rfl, List.replicate_zero, List.append_nil, List.take_of_length_le (by omega)] at hrow
        exact hrow
      obtain ⟨V, hV⟩ : ∃ V, V = adrV (sixA l) := ⟨_, rfl⟩
      have hV1 := Lib.hid (show V.toArray.all (·.oneCell') = true from all_one (by rw [hV]; exact adrV_one _))
      have hVs := Lib.hid (show (adrV zeroA).toArray.size = V.toArray.size by rw [hV, List.size_toArray, List.size_toArray, length_adrV zeroA_ok, length_adrV (show (sixA l).Ok by show (bytes6 l).length = 16; rw [length_bytes6, h8])])
      rw [← hV] at hrow hsz
      have HV := Lib.hid hV
      obtain ⟨Z, hZ⟩ : ∃ Z, Z = adrV zeroA := ⟨_, rfl⟩
      rw [← hZ] at hres hVs
      have H1 := Lib.hid (show wr.heap[w.heap.size + 1]? = some (.cells V.toArray 24 (0, 0)) from hrow)
      have H0 := Lib.hid (show wr.heap[w.heap.size]? = some (.cells Z.toArray 24 (0, 0)) from hres)
      clear hV hZ hrow hres
      go_wp2_with (first
        | (with_reducible refine wpList_load_row rfl 24 (.tmp 3) rfl (w.heap.size + 1) rfl 24 V.toArray (0, 0) _ H1.out Tryd.underlying24 rfl hsz.out ?_)
        | (with_reducible refine wpList_store_row rfl 24 (.tmp 2) (.tmp 30) rfl w.heap.size V.toArray rfl rfl 24 Z.toArray H0.out hsz.out hVs.out hV1.out ?_; refine Hid.out ?_))
      refine Lib.hid ?_
      generalize hw5 : World.setRow _ _ _ = w5
      obtain ⟨r5, hg5⟩ := row_set (show Row wr w.heap.size 24 Z from H0.out) hw5
      have hb5 := hb.grown hg5 hb.size (fun k h => by cases h; exact Nat.le_refl _)
      have R5 := Lib.hid (show w5.heap[w.heap.size]? = some (.cells V.toArray 24 (0, 0)) from r5)
      clear hw5 r5 hg5 H0 H1
      go_wp2_with (with_reducible refine bodyPost_ret (results_cell_row rfl _ _ w.heap.size 24 V.toArray (0, 0) _ rfl R5.out Tryd.underlying24 rfl hsz.out) rfl ?_)
      exact ⟨by rw [HV.out], hb5⟩
end Go.Proofs.YtflebnbpoboljaaDoor
