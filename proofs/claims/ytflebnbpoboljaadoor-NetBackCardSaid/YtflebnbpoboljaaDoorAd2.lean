/- LAYER 12: package addr: numbersOf. -/
import Derived.Test.YtflebnbpoboljaaDoorAd1
import Derived.BigRegion
namespace Go.Proofs.YtflebnbpoboljaaDoor
set_option maxRecDepth 100000
open Go Go.RowKit

theorem numsA_take (a : Adr) (k : Nat) (hk : k < 8) : (numsA a).getD k 0 = (a.b.getD (2 * k) 0).toNat * 256 + (a.b.getD (2 * k + 1) 0).toNat := by
  unfold numsA
  rw [List.getD_eq_getElem?_getD, List.getElem?_map, List.getElem?_range hk]; rfl
theorem or_hi (p q : UInt8) : bits .or .u16 (IntKind.u16.wrap (IntKind.u16.wrap (p.toNat : Int) * 256)) (IntKind.u16.wrap (q.toNat : Int)) = ((p.toNat * 256 + q.toNat : Nat) : Int) := by
  have hp := p.toNat_lt
  have hq := q.toNat_lt
  have e1 : IntKind.u16.wrap (IntKind.u16.wrap (p.toNat : Int) * 256) = ((p.toNat <<< 8 : Nat) : Int) := by rw [IntKind.wrap_u16, IntKind.wrap_u16, Nat.shiftLeft_eq]; omega
  have e2 : IntKind.u16.wrap (q.toNat : Int) = ((q.toNat : Nat) : Int) := by rw [IntKind.wrap_u16]; omega
  have hs : p.toNat <<< 8 = p.toNat * 256 := by rw [Nat.shiftLeft_eq]
  rw [e1, e2]
  show IntKind.u16.wrap ((BitVec.ofInt 16 ((p.toNat <<< 8 : Nat) : Int) ||| BitVec.ofInt 16 (q.toNat : Int)).toNat : Int) = _
  rw [BitVec.ofInt_natCast, BitVec.ofInt_natCast, BitVec.toNat_or, BitVec.toNat_ofNat, BitVec.toNat_ofNat, Nat.mod_eq_of_lt (by omega), Nat.mod_eq_of_lt (by omega), ← Nat.shiftLeft_add_eq_or_of_lt (by omega : q.toNat < 2 ^ 8), IntKind.wrap_u16]
  omega
set_option maxHeartbeats 2000000 in
theorem anums_any (a : Adr) (h : a.Ok) (w : World) :
    Calls Tryd.prog 40 #[.agg (adrV a).toArray] w fun e w' => e = .returned (.agg (hwV (numsA a)).toArray) ∧ Below w.heap.size w w' := by
  have HN := Lib.hid (numsA_take a)
  have hL8 := numsA_len a
  have hsl := Lib.hid (show (Tryd.prog.info? 62).map (·.size) = some (hwV (numsA a)).toArray.size by rw [show (Tryd.prog.info? 62).map (·.size) = some 8 by kernel_rfl, List.size_toArray, length_hwV, hL8])
  go_enter Tryd.func40, Tryd.ntmps40
  go_wp2
  generalize hw1 : ((w.alloc _).alloc _).alloc _ = w1
  obtain ⟨r0, r1, r2, hb1⟩ := three_rows hw1
  clear hw1
  have r2 : Row w1 (w.heap.size + 1 + 1) 62 (hwV ((numsA a).take 0) ++ List.replicate (8 - 0) (.int .u16 0)) := r2
  go_loopw [5] (fun i wr => ∃ k : Nat, k ≤ 8 ∧ i = .int .i64 k ∧ Row wr (w.heap.size + 1 + 1) 62 (hwV ((numsA a).take k) ++ List.replicate (8 - k) (.int .u16 0)) ∧ Row wr (w.heap.size + 1) 62 (List.replicate 8 (.int .u16 0)) ∧ Row wr w.heap.size 24 (adrV a) ∧ Below w.heap.size w wr) (fun i _ => 8 - (intOf i).toNat)
  case atStart => exact ⟨0, by omega, rfl, r2, r1, r0, hb1⟩
  case round =>
    clear r0 r1 r2 hb1
    obtain ⟨k, hk, rfl, hrow, hres, hbx, hb⟩ := hrel
    by_cases hlt : k < 8
    · have hlt' : (k : Int) < 8 := by omega
      have hc1 := adr_cell h hbx (2 * k) (by omega)
      have hc2 := adr_cell h hbx (2 * k + 1) (by omega)
      have HS := Lib.hid (show (numsA a).take (k + 1) = (numsA a).take k ++ [(a.b.getD (2 * k) 0).toNat * 256 + (a.b.getD (2 * k + 1) 0).toNat] by
        rw [← HN.out k hlt, List.take_add_one, List.getD_eq_getElem?_getD, List.getElem?_eq_getElem (by omega)]; rfl)
      generalize a.b.getD (2 * k) 0 = p at *
      generalize a.b.getD (2 * k + 1) 0 = q at *
      have hI0 : IntKind.i64.wrap (2 * (k : Int)) = 2 * (k : Int) := by rw [IntKind.wrap_i64]; omega
      have hI1 : (0 : Int) ≤ 2 * (k : Int) := by omega
      have hI2 : 2 * (k : Int) < 16 := by omega
      have hI3 : (2 * (k : Int)).toNat = 2 * k := by omega
      have hJ0 : IntKind.i64.wrap (2 * (k : Int) + 1) = 2 * (k : Int) + 1 := by rw [IntKind.wrap_i64]; omega
      have hJ1 : (0 : Int) ≤ 2 * (k : Int) + 1 := by omega
      have hJ2 : 2 * (k : Int) + 1 < 16 := by omega
      have hJ3 : (2 * (k : Int) + 1).toNat = 2 * k + 1 := by omega
      have hTl : ((numsA a).take k).length = k := by rw [List.length_take]; omega
      have hc3 : wr.cell? ⟨w.heap.size + 1 + 1, k, none⟩ = some (.int .u16 0) := by rw [hrow.cell, List.getElem?_append_right (by rw [length_hwV, hTl]; exact Nat.le_refl _), length_hwV, hTl, Nat.sub_self, show 8 - k = (7 - k) + 1 by omega]; rfl
      have hf3 := hrow.free k
      go_wp2
      go_region
      go_wp2
      go_roundw
      case rel =>
        refine ⟨k + 1, by omega, by go_num, ?_, ?_, ?_, ?_⟩
        · rw [or_hi]
          have h3 := hrow.set k (.int .u16 ((p.toNat * 256 + q.toNat : Nat) : Int))
          have e : hwV ((numsA a).take (k + 1)) ++ List.replicate (8 - (k + 1)) (Value.int .u16 0) = (hwV ((numsA a).take k) ++ List.replicate (8 - k) (Value.int .u16 0)).set k (.int .u16 ((p.toNat * 256 + q.toNat : Nat) : Int)) := by
            rw [HS.out, List.set_append_right _ _ (by rw [length_hwV, hTl]; exact Nat.le_refl _), length_hwV, hTl, Nat.sub_self, show 8 - k = (8 - (k + 1)) + 1 by omega, List.replicate_succ, List.set_cons_zero]
            unfold hwV
            simp
          rw [e]
          exact h3
        · exact hres.far ⟨w.heap.size + 1 + 1, k, none⟩ _ (by show w.heap.size + 1 ≠ w.heap.size + 1 + 1; omega)
        · exact hbx.far ⟨w.heap.size + 1 + 1, k, none⟩ _ (by show w.heap.size ≠ w.heap.size + 1 + 1; omega)
        · exact (hb.grown (grown_setCell _ _ _ _) hb.size (fun k h => by cases h; omega)).drew
      case measure => simp [intOf]; omega
    · obtain rfl : k = 8 := by omega
      have hrow : Row wr (w.heap.size + 1 + 1) 62 (hwV (numsA a)) := by
        rw [Nat.sub_self, List.replicate_zero, List.append_nil, List.take_of_length_le (by omega)] at hrow
        exact hrow
      have hV1 := Lib.hid (show (hwV (numsA a)).toArray.all (·.oneCell') = true from all_one (hwV_one _))
      have hVs := Lib.hid (show (List.replicate 8 (Value.int .u16 0)).toArray.size = (hwV (numsA a)).toArray.size by rw [List.size_toArray, List.size_toArray, length_hwV, hL8]; rfl)
      generalize hVV : hwV (numsA a) = V at *
      have HV := Lib.hid hVV
      clear hVV
      generalize List.replicate 8 (Value.int .u16 0) = Z at *
      have H1 := Lib.hid (show wr.heap[w.heap.size + 1 + 1]? = some (.cells V.toArray 62 (0, 0)) from hrow)
      have H0 := Lib.hid (show wr.heap[w.heap.size + 1]? = some (.cells Z.toArray 62 (0, 0)) from hres)
      clear hrow hres hbx
      go_wp2_with (first
        | (with_reducible refine wpList_load_row rfl 62 (.tmp 3) rfl (w.heap.size + 1 + 1) rfl 62 V.toArray (0, 0) _ H1.out Tryd.underlying62 rfl hsl.out ?_)
        | (with_reducible refine wpList_store_row rfl 62 (.tmp 2) (.tmp 26) rfl (w.heap.size + 1) V.toArray rfl rfl 62 Z.toArray H0.out hsl.out hVs.out hV1.out ?_; refine Hid.out ?_))
      refine Lib.hid ?_
      generalize hw5 : World.setRow _ _ _ = w5
      obtain ⟨r5, hg5⟩ := row_set (show Row wr (w.heap.size + 1) 62 Z from H0.out) hw5
      have hb5 := hb.grown hg5 hb.size (fun k h => by cases h; omega)
      have R5 := Lib.hid (show w5.heap[w.heap.size + 1]? = some (.cells V.toArray 62 (0, 0)) from r5)
      clear hw5 r5 hg5 H0 H1
      go_wp2_with (with_reducible refine bodyPost_ret (results_cell_row rfl _ _ (w.heap.size + 1) 62 V.toArray (0, 0) _ rfl R5.out Tryd.underlying62 rfl hsl.out) rfl ?_)
      exact ⟨by rw [HV.out], hb5⟩
end Go.Proofs.YtflebnbpoboljaaDoor
