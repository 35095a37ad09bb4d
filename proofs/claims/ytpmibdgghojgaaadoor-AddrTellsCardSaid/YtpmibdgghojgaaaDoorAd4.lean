/- LAYER 12: strconv.FormatUint at base 16. -/
import Derived.Test.YtpmibdgghojgaaaDoorAd3
namespace Go.Proofs.YtpmibdgghojgaaaDoor
set_option maxRecDepth 100000
open Go Go.RowKit

theorem pow2_16 (w : World) : Calls Tryd.prog 65 #[.int .i64 16] w fun e w' => e = .returned (.bool true) ∧ w = w' := by
  go_enter Tryd.func65, Tryd.ntmps65
  go_wp2
  go_ret
  exact ⟨rfl, rfl⟩
theorem trail64_16 (w : World) (hE : Env w) : Calls Tryd.prog 76 #[.int .u64 16] w fun e w' => e = .returned (.int .i64 4) ∧ w = w' := by
  have h4 := hE.four
  have h16 : IntKind.u64.wrap (bits BinOp.and IntKind.u64 16 (IntKind.u64.wrap (-16)) * 285870213051353865) = 4573923408821661840 := by decide
  go_enter Tryd.func76, Tryd.ntmps76
  go_wp2
  go_ret
  exact ⟨rfl, rfl⟩
theorem trail_16 (w : World) (hE : Env w) : Calls Tryd.prog 66 #[.int .u64 16] w fun e w' => e = .returned (.int .i64 4) ∧ w = w' := by
  go_enter Tryd.func66, Tryd.ntmps66
  go_wp2_with (go_at_call 76; refine (trail64_16 _ hE).mono ?_; rintro e w' ⟨rfl, rfl⟩)
  go_ret
  exact ⟨rfl, rfl⟩
theorem digit_at36 (h : Nat) (hh : h < 16) (w : World) : (Instr.index 9 (.string { data := #[48, 49, 50, 51, 52, 53, 54, 55, 56, 57, 97, 98, 99, 100, 101, 102, 103, 104, 105, 106, 107, 108, 109, 110, 111, 112, 113, 114, 115, 116, 117, 118, 119, 120, 121, 122] }) (.int .u64 (h : Int))).run Tryd.prog w = .ok (.int .u8 ((hexD h).toNat : Int)) w := by
  have : h = 0 ∨ h = 1 ∨ h = 2 ∨ h = 3 ∨ h = 4 ∨ h = 5 ∨ h = 6 ∨ h = 7 ∨ h = 8 ∨ h = 9 ∨ h = 10 ∨ h = 11 ∨ h = 12 ∨ h = 13 ∨ h = 14 ∨ h = 15 := by omega
  rcases this with rfl | rfl | rfl | rfl | rfl | rfl | rfl | rfl | rfl | rfl | rfl | rfl | rfl | rfl | rfl | rfl <;> (show _ = _; kernel_rfl)
theorem and15 (v : Nat) (hv : v < 65536) : bits .and .u64 (v : Int) 15 = ((v % 16 : Nat) : Int) := by
  show IntKind.u64.wrap ((BitVec.ofInt 64 (v : Int) &&& BitVec.ofInt 64 15).toNat : Int) = _
  rw [BitVec.ofInt_natCast, BitVec.toNat_and, BitVec.toNat_ofNat, Nat.mod_eq_of_lt (by omega), show (BitVec.ofInt 64 15).toNat = 2 ^ 4 - 1 by decide, Nat.and_two_pow_sub_one_eq_mod, IntKind.wrap_u64]
  omega
theorem row65_set (k : Nat) (hk : k < 65) (D : List UInt8) (hD : D.length = k) (d : UInt8) : (List.replicate (65 - k) (Value.int .u8 0) ++ byts D).set (65 - k - 1) (.int .u8 (d.toNat : Int)) = List.replicate (65 - (k + 1)) (Value.int .u8 0) ++ byts (d :: D) := by
  rw [List.set_append_left _ _ (by simp; omega), show 65 - k = (65 - (k + 1)) + 1 by omega, List.replicate_succ', List.set_append_right _ _ (by simp), List.length_replicate, show 65 - (k + 1) + 1 - 1 - (65 - (k + 1)) = 0 by omega, List.set_cons_zero, List.append_assoc]
  rfl
set_option maxHeartbeats 2000000 in
theorem fbits_any (u : Nat) (hu : u < 65536) (w : World) (hE : Env w) :
    Calls Tryd.prog 47 #[.slice none 0 0, .int .u64 u, .int .i64 16, .bool false, .bool false] w fun e w' => e = .returned (.tuple #[.slice none 0 0, .string (bstr (numL 16 u))]) ∧ Below w.heap.size w w' := by
  have hE1 := Lib.hid (fun o => hE.later (Nat.le_refl _) ((Below.refl _ w).alloc (Nat.le_refl _) o))
  go_enter Tryd.func47, Tryd.ntmps47
  go_wp2_with (first
    | (go_at_call 65; refine (pow2_16 _).mono ?_; rintro e w' ⟨rfl, rfl⟩)
    | (go_at_call 66; refine (trail_16 _ (hE1.out _)).mono ?_; rintro e w' ⟨rfl, rfl⟩))
  have hr0 : Row (w.alloc (.cells Tryd.zeroCells101 101)) w.heap.size 101 (List.replicate (65 - 0) (.int .u8 0) ++ byts []) := Row.new w _ _
  have hb0 : Below w.heap.size w (w.alloc (.cells Tryd.zeroCells101 101)) := (Below.refl _ w).alloc (Nat.le_refl _) _
  generalize w.alloc (.cells Tryd.zeroCells101 101) = w1 at *
  clear hE1 hE
  go_loopw [1, 13] (fun x i wr => ∃ (v k : Nat) (D : List UInt8), x = .int .u64 v ∧ i = .int .i64 ((65 - k : Nat) : Int) ∧ D.length = k ∧ numL 16 u = numL 16 v ++ D ∧ ((k = 0 ∧ v < 65536) ∨ (k = 1 ∧ v < 4096) ∨ (k = 2 ∧ v < 256) ∨ (k = 3 ∧ v < 16)) ∧ Row wr w.heap.size 101 (List.replicate (65 - k) (.int .u8 0) ++ byts D) ∧ Below w.heap.size w wr) (fun x _ _ => (intOf x).toNat)
  case atStart => exact ⟨u, 0, [], rfl, rfl, rfl, by simp, .inl ⟨rfl, hu⟩, hr0, hb0⟩
  case round =>
    clear hr0 hb0
    obtain ⟨v, k, D, rfl, rfl, hDl, hnum, hvk, hrow, hb⟩ := hrel
    have hv : v < 65536 := by omega
    have hI0 : IntKind.i64.wrap (((65 - k : Nat) : Int) - 1) = ((65 - k - 1 : Nat) : Int) := by rw [IntKind.wrap_i64]; omega
    have hk65 : ((65 - k - 1 : Nat) : Int) < 65 := by omega
    have hcell : wr.cell? ⟨w.heap.size, 65 - k - 1, none⟩ = some (.int .u8 0) := by rw [hrow.cell, List.getElem?_append_left (by simp; omega), List.getElem?_replicate, if_pos (by omega)]
    have hfree := hrow.free (65 - k - 1)
    by_cases hge : 16 ≤ v
    · have hge' : (16 : Int) ≤ (v : Int) := by omega
      have ha := and15 v hv
      have hix := digit_at36 (v % 16) (by omega)
      have HN := Lib.hid (show numL 16 u = numL 16 (v / 16) ++ (hexD (v % 16) :: D) by rw [hnum, numL_great 16 v (by omega) hge, List.append_assoc]; rfl)
      have HR := Lib.hid (row65_set k (by omega) D hDl (hexD (v % 16)))
      generalize hexD (v % 16) = d at *
      generalize hm : v % 16 = m at *
      clear hnum
      go_wp2
      go_roundw
      case rel =>
        refine ⟨v / 16, k + 1, d :: D, by go_num, by rw [show 65 - k - 1 = 65 - (k + 1) by omega], by simp [hDl], HN.out, by omega, ?_, hb.grown (grown_setCell _ _ _ _) hb.size (fun k h => by cases h; exact Nat.le_refl _)⟩
        rw [← HR.out]
        exact hrow.set (65 - k - 1) _
      case measure => simp [intOf]; omega
    · have hlt' : (v : Int) < 16 := by omega
      have hix := digit_at36 v (by omega)
      have HN := Lib.hid (show numL 16 u = hexD v :: D by rw [hnum, numL_small 16 v (by omega)]; rfl)
      have HR := Lib.hid (row65_set k (by omega) D hDl (hexD v))
      have hlo0 : (0 : Int) ≤ ((65 - k - 1 : Nat) : Int) := by omega
      have hlo1 : ((65 - k - 1 : Nat) : Int) ≤ 65 := by omega
      generalize hexD v = d at *
      clear hnum
      have hrow3 : Row (wr.setCell ⟨w.heap.size, 65 - k - 1, none⟩ (.int .u8 (d.toNat : Int))) w.heap.size 101 (List.replicate (65 - (k + 1)) (.int .u8 0) ++ byts (d :: D)) := by rw [← HR.out]; exact hrow.set (65 - k - 1) _
      have hlen : (List.replicate (65 - (k + 1)) (Value.int .u8 0) ++ byts (d :: D)).length = 65 := by rw [List.length_append, List.length_replicate, length_byts, List.length_cons, hDl]; omega
      have hsl3 := (sl_of_own (own_of_row hrow3 (Nat.le_refl _) (by rw [hlen]; unfold maxLen; omega))).cut (k := 65 - k - 1) (by rw [hlen]; omega)
      rw [hlen, Nat.zero_add, show 65 - k - 1 = 65 - (k + 1) by omega, List.drop_left' (by simp), ← show 65 - k - 1 = 65 - (k + 1) by omega] at hsl3
      have hcv := conv_bytes hsl3 (65 - (65 - k - 1)) (by rw [List.length_cons, hDl]; omega)
      have hb3 := hb.grown (show wr.grownBy (wr.setCell ⟨w.heap.size, 65 - k - 1, none⟩ (.int .u8 (d.toNat : Int))) (some w.heap.size) from grown_setCell _ _ _ _) hb.size (fun k h => by cases h; exact Nat.le_refl _)
      clear hsl3 hrow3
      go_wp2
      go_ret2
      exact ⟨by rw [HN.out]; rfl, hb3⟩
theorem fmt16_any (u : Nat) (hu : u < 65536) (w : World) (hE : Env w) :
    Calls Tryd.prog 29 #[.int .u64 u, .int .i64 16] w fun e w' => e = .returned (.string (bstr (numL 16 u))) ∧ Below w.heap.size w w' := by
  have h : Calls Tryd.prog 35 #[.int .u64 u, .int .i64 16] w fun e w' => e = .returned (.string (bstr (numL 16 u))) ∧ Below w.heap.size w w' := by
    go_enter Tryd.func35, Tryd.ntmps35
    go_wp2_with (go_at_call 47; refine (fbits_any u hu _ hE).mono ?_; rintro e w' ⟨rfl, hb⟩)
    go_ret
    exact ⟨rfl, hb⟩
  go_enter Tryd.func29, Tryd.ntmps29
  go_wp2_with (go_at_call 35; refine h.mono ?_; rintro e w' ⟨rfl, hb⟩)
  go_ret
  exact ⟨rfl, hb⟩
end Go.Proofs.YtpmibdgghojgaaaDoor
