/- strconv.FormatUint at base 10, where the library's table of powers of ten lies as it is laid (layers 12, 15). -/
import Derived.Test.YtbngnmhbnhpbeaaDoorIl
import Derived.Test.YtbngnmhbnhpbeaaDoorMw
import Derived.Test.YtbngnmhbnhpbeaaDoorSh
import Derived.Lib.SmallJoins
import Derived.Lib.ItoaMem
import Derived.BigCall
import Derived.BigGuard
import Derived.Lib.OwnBridge
namespace Go.Proofs.YtbngnmhbnhpbeaaDoor
set_option maxRecDepth 100000
open Go Go.RowKit Go.Lib Go.Sort

theorem gPow : Tryd.prog.globalNamed "internal/strconv.uint64pow10" = some 2 := by kernel_rfl
theorem cell_later {w w' : World} {B b o : Nat} {v : Value} (h : w.cell? ⟨b, o, none⟩ = some v) (hB : w.heap.size ≤ B) (hb : Below B w w') : w'.cell? ⟨b, o, none⟩ = some v := by
  obtain ⟨c, e, fr, hb', _⟩ := cells_of_cell? h
  rw [hb.cell (Nat.lt_of_lt_of_le (Array.getElem?_eq_some_iff.1 hb').1 hB)]
  exact h
theorem decDigits_num (n : Nat) : decDigits n = numL 10 n := by
  induction n using Nat.strongRecOn with
  | _ n ih =>
    rw [decDigits]
    by_cases h : n < 10
    · rw [dif_pos h, numL_small 10 n h]
      unfold hexD
      rw [if_pos h]
    · rw [dif_neg h, numL_great 10 n (by omega) (by omega), ih (n / 10) (by omega)]
      unfold hexD
      rw [if_pos (by omega)]
set_option maxHeartbeats 2000000 in
theorem fmt10_p (u : Nat) (hu64 : u < 18446744073709551616) (w : World) (hp : TabIs Tryd.prog w "internal/strconv.uint64pow10" .u64 pow10Tab) :
    Calls Tryd.prog 36 #[.int .u64 u, .int .i64 10] w fun e w' => e = .returned (.string (bstr (numL 10 u))) ∧ Below w.heap.size w w' := by
  rw [← decDigits_num]
  by_cases hs : u < 100
  · have hs' : (u : Int) < 100 := by omega
    have hw1 : IntKind.i64.wrap (u : Int) = (u : Int) := by rw [IntKind.wrap_i64]; omega
    go_enter Tryd.func36, Tryd.ntmps36
    go_wp2_with (go_at_call 50; refine (Tryd.internal_strconv_small u hs _).mono ?_; rintro e w' ⟨rfl, rfl⟩)
    go_ret
    exact ⟨rfl, Below.refl _ _⟩
  · have hs' : (100 : Int) ≤ (u : Int) := by omega
    have hu1 : 1 ≤ u := by omega
    have hnd20 : nDigits u ≤ 20 := by have := numDigits_eq u hu1 hu64; split at this <;> omega
    have hb3 : nDigits u ≤ 23 := by omega
    have hal : Tryd.prog.arrayLen 70 = 24 := by kernel_rfl
    have hsl : ∀ W, (Instr.sliceAt 70 (.pointer (some ⟨w.heap.size, 0, none⟩)) none (some (.int .i64 (nDigits u : Int))) none).run Tryd.prog W = .ok (.slice (some ⟨w.heap.size, 0, none⟩) (nDigits u) 24) W := fun W => by
      rw [run_sliceAt_array_h W 70 ⟨w.heap.size, 0, none⟩ (by kernel_rfl) .i64 (nDigits u : Int) (by omega) (by rw [hal]; omega), hal]
      rfl
    have hH0 : Holds (fun (b : UInt8) => Value.int .u8 (b.toNat : Int)) (w.alloc (.cells zeros24 70)) w.heap.size 0 (Array.replicate (nDigits u) (0 : UInt8)) := fun j hj => by
      have hj' : j < nDigits u := by simpa using hj
      refine ⟨?_, World.frozen?_alloc_new _ _ _ _⟩
      rw [World.cell?_alloc_new, zeros24_at _ (by omega), getElem!_pos _ j hj]
      simp
    have hfmt := Lib.hid (Tryd.internal_strconv_formatBase10 w.heap.size 0 24 u (Array.replicate (nDigits u) 0) (w.alloc (.cells zeros24 70)) hH0 (by rw [Array.size_replicate]; exact lt_pow_nDigits u) hu64 (by rw [Array.size_replicate]; omega))
    rw [Array.size_replicate] at hfmt
    have HH0 := Lib.hid hH0
    have hE1 := Lib.hid (Joins.tab_stays gPow hp ((RowKit.Below.refl _ w).alloc (Nat.le_refl _) (.cells zeros24 70)) (Nat.le_refl _))
    clear hH0 hal
    go_enter Tryd.func36, Tryd.ntmps36
    go_wp2_with (first
      | (go_at_call 51; refine (Tryd.internal_strconv_numDigits u hu1 hu64 _ hE1.out).mono ?_; rintro e w' ⟨rfl, rfl⟩)
      | (go_at_call 52; refine hfmt.out.mono ?_; rintro e w' ⟨rfl, k, v', dk, rfl, hF⟩; refine Hid.out ?_))
    refine Lib.hid ?_
    have hcv : (convert 48 9 (.slice (some ⟨w.heap.size, 0, none⟩) (nDigits u) 24)).run Tryd.prog ((putRow (fun (b : UInt8) => Value.int .u8 (b.toNat : Int)) (w.alloc (.cells zeros24 70)) w.heap.size 0 dk).drewN k) = .ok (.string (bstr (decDigits u))) ((putRow (fun (b : UInt8) => Value.int .u8 (b.toNat : Int)) (w.alloc (.cells zeros24 70)) w.heap.size 0 dk).drewN k) := by
      have h := run_convert_bytes_back (P := Tryd.prog) ((putRow (fun (b : UInt8) => Value.int .u8 (b.toNat : Int)) (w.alloc (.cells zeros24 70)) w.heap.size 0 dk).drewN k) 48 9 5 ⟨w.heap.size, 0, none⟩ 24 (decDigits u) Tryd.underlying48 Tryd.underlying5 Tryd.underlying9 (fun j hj => by
        rw [Lib.add_plain, Lib.row_is_numeral hF j hj, World.cell?_drewN]
        exact cell?_putRow (fun (b : UInt8) => Value.int .u8 (b.toNat : Int)) _ w.heap.size 0 _ dk HH0.out (by rw [hF.size, Array.size_replicate]) j (by rw [hF.size]; rw [Lib.decDigits_length] at hj; exact hj))
      rw [Lib.decDigits_length] at h
      exact h
    have hb : RowKit.Below w.heap.size w ((putRow (fun (b : UInt8) => Value.int .u8 (b.toNat : Int)) (w.alloc (.cells zeros24 70)) w.heap.size 0 dk).drewN k) :=
      have h := below_putRow (enc := fun (b : UInt8) => Value.int .u8 (b.toNat : Int)) (d := dk) (q := 0) ((RowKit.Below.refl _ w).alloc (Nat.le_refl _) (.cells zeros24 70)) (Nat.le_refl _)
      ⟨h.os, h.tape, h.output, h.size, h.block⟩
    generalize ((putRow (fun (b : UInt8) => Value.int .u8 (b.toNat : Int)) (w.alloc (.cells zeros24 70)) w.heap.size 0 dk).drewN k) = w3 at *
    generalize hS : bstr (decDigits u) = S at *
    have HS := Lib.hid hS
    clear hS
    go_wp2
    go_ret
    exact ⟨by rw [HS.out]; rfl, hb⟩
theorem fmt10_q (u : Nat) (hu64 : u < 18446744073709551616) (w : World) (hp : TabIs Tryd.prog w "internal/strconv.uint64pow10" .u64 pow10Tab) :
    Calls Tryd.prog 25 #[.int .u64 u, .int .i64 10] w fun e w' => e = .returned (.string (bstr (numL 10 u))) ∧ Below w.heap.size w w' := by
  go_enter Tryd.func25, Tryd.ntmps25
  go_wp2_with (go_at_call 36; refine (fmt10_p u hu64 _ hp).mono ?_; rintro e w' ⟨rfl, hb⟩)
  go_ret
  exact ⟨rfl, hb⟩
end Go.Proofs.YtbngnmhbnhpbeaaDoor
