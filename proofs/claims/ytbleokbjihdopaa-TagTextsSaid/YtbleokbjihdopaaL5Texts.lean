/- LAYER 5, TagTexts: the walk of the law. -/
import Derived.Test.YtbleokbjihdopaaTa
import Derived.Test.YtbleokbjihdopaaTr
import Derived.Test.YtbleokbjihdopaaTn
import Derived.Test.YtbleokbjihdopaaEq
namespace Go.Proofs.Ytbleokbjihdopaa
open Go Go.RowKit

theorem hexL_at (t : List UInt8) : ∀ j, j < t.length → (hexL t).getD (2 * j) 0 = hexD ((t.getD j 0).toNat / 16) ∧ (hexL t).getD (2 * j + 1) 0 = hexD ((t.getD j 0).toNat % 16) := by
  induction t with
  | nil => intro j h; simp at h
  | cons x t ih =>
    intro j h
    have e : hexL (x :: t) = hexD (x.toNat / 16) :: hexD (x.toNat % 16) :: hexL t := rfl
    rw [e]
    cases j with
    | zero => exact ⟨rfl, rfl⟩
    | succ j =>
      have := ih j (by simpa using h)
      rw [show 2 * (j + 1) = 2 * j + 1 + 1 by omega]
      simp only [List.getD_cons_succ]
      exact this
theorem isHex_hexL (t : List UInt8) (ht : t.length = 32) : isHex (hexL t) = true := by
  rw [isHex_iff _ (by rw [length_hexL, ht])]
  intro j hj
  have h := hexL_at t (j / 2) (by omega)
  by_cases e : j = 2 * (j / 2)
  · rw [e, h.1, hexV_hexD _ (by have := (t.getD (j / 2) 0).toNat_lt; omega)]; omega
  · rw [show j = 2 * (j / 2) + 1 by omega, h.2, hexV_hexD _ (by omega)]; omega
theorem unhex_hexL (t : List UInt8) (ht : t.length = 32) : unhex (hexL t) = t := by
  unfold unhex
  rw [if_pos (isHex_hexL t ht)]
  apply ext_getD (by rw [length_nibs, ht])
  intro j hj
  rw [length_nibs] at hj
  have h := hexL_at t j (by omega)
  rw [nibs_at _ _ _ hj]
  unfold nib
  have hx := (t.getD j 0).toNat_lt
  rw [if_pos (by omega), h.1, h.2, hexV_hexD _ (by omega), hexV_hexD _ (by omega)]
  rw [← UInt8.toNat_inj, UInt8.toNat_ofNat']
  omega
set_option maxRecDepth 20000 in
set_option maxHeartbeats 2000000 in
theorem texts_walk (t : List UInt8) (ht : t.length = 32) (s : List UInt8) (n : Nat) (hn : n < 18446744073709551616) (w : World) :
    Calls Try.prog 4 #[.agg (byts t).toArray, .string (bstr s), .int .u64 (n : Int)] w fun e w' => e = .returned (.bool true) ∧ Below w.heap.size w w' := by
  obtain ⟨j0, hj0, _, _, _⟩ := info_parts infoByte
  obtain ⟨TT, hTT⟩ : ∃ V, V = byts t := ⟨_, rfl⟩
  have hTl : TT.length = 32 := by rw [hTT, length_byts, ht]
  have hET : ∀ w, (Op.equalIn 10000 25 (.agg TT.toArray) (.agg TT.toArray)).run Try.prog w = .ok true w := by
    intro w
    rw [hTT, run_eq_bytes 25 32 j0 Try.underlying25 hj0 t t ht ht w, decide_eq_true rfl]
  obtain ⟨U, hU⟩ : ∃ V, V = byts (unhex s) := ⟨_, rfl⟩
  have hUl : U.length = 32 := by rw [hU, length_byts, length_unhex]
  have hEU : ∀ w, (Op.equalIn 10000 25 (.agg U.toArray) (.agg U.toArray)).run Try.prog w = .ok true w := by
    intro w
    rw [hU, run_eq_bytes 25 32 j0 Try.underlying25 hj0 (unhex s) (unhex s) (length_unhex s) (length_unhex s) w, decide_eq_true rfl]
  have honeT := Lib.hid (all_one (show ∀ v ∈ TT, v.oneCell' = true by rw [hTT]; exact byts_one _))
  have hszT := Lib.hid (show (Try.prog.info? 25).map (·.size) = some TT.length by rw [size_tag, hTl])
  have hszTa := Lib.hid (show (Try.prog.info? 25).map (·.size) = some TT.toArray.size by rw [size_tag, List.size_toArray, hTl])
  have h32T := Lib.hid (show 32 = TT.toArray.size by rw [List.size_toArray, hTl])
  have honeU := Lib.hid (all_one (show ∀ v ∈ U, v.oneCell' = true by rw [hU]; exact byts_one _))
  have hszU := Lib.hid (show (Try.prog.info? 25).map (·.size) = some U.length by rw [size_tag, hUl])
  have hszUa := Lib.hid (show (Try.prog.info? 25).map (·.size) = some U.toArray.size by rw [size_tag, List.size_toArray, hUl])
  have h32U := Lib.hid (show 32 = U.toArray.size by rw [List.size_toArray, hUl])
  obtain ⟨X, hX⟩ : ∃ X, X = bstr (hexL t) := ⟨_, rfl⟩
  obtain ⟨Y, hY⟩ : ∃ Y, Y = bstr s := ⟨_, rfl⟩
  obtain ⟨ok, hok⟩ : ∃ b, b = isHex s := ⟨_, rfl⟩
  obtain ⟨E, hE⟩ : ∃ b, b = eightL n := ⟨_, rfl⟩
  have htx := Lib.hid (show ∀ w1, Calls Try.prog 11 #[.agg TT.toArray] w1 fun e w' => e = .returned (.string X) ∧ Below w1.heap.size w1 w' by rw [hTT, hX]; exact fun w1 => text_any t ht w1)
  have hrx := Lib.hid (show ∀ w1, Calls Try.prog 12 #[.agg TT.toArray] w1 fun e w' => e = .returned (.string X) ∧ Below w1.heap.size w1 w' by rw [hTT, hX]; exact fun w1 => rtext_any t ht w1)
  have hps := Lib.hid (show ∀ w1, Calls Try.prog 9 #[.string Y] w1 fun e w' => e = .returned (.tuple #[.agg U.toArray, .bool ok]) ∧ Below w1.heap.size w1 w' by rw [hY, hU, hok]; exact fun w1 => tparse_any s w1)
  have hrp := Lib.hid (show ∀ w1, Calls Try.prog 10 #[.string Y] w1 fun e w' => e = .returned (.tuple #[.agg U.toArray, .bool ok]) ∧ Below w1.heap.size w1 w' by rw [hY, hU, hok]; exact fun w1 => rparse_any s w1)
  have hpt := Lib.hid (show ∀ w1, Calls Try.prog 9 #[.string X] w1 fun e w' => e = .returned (.tuple #[.agg TT.toArray, .bool true]) ∧ Below w1.heap.size w1 w' by
    intro w1
    have h := tparse_any (hexL t) w1
    rw [unhex_hexL t ht, isHex_hexL t ht] at h
    rw [hX, hTT]
    exact h)
  have hnb := Lib.hid (show ∀ w1, Calls Try.prog 13 #[.int .u64 (n : Int)] w1 (GaveBytes E w1) by rw [hE]; exact fun w1 => number_any n w1)
  have hrn := Lib.hid (show ∀ w1, Calls Try.prog 14 #[.int .u64 (n : Int)] w1 (GaveBytes E w1) by rw [hE]; exact fun w1 => rnumber_any n hn w1)
  rw [← hTT, ← hY]
  clear hTT hTl hU hUl hX hY hok hE hn hj0
  have tok1 : True := trivial
  go_enter Try.func4, Try.ntmps4
  go_wp2_with (first
    | (go_at_call 6; refine (talive_any _).mono ?_; rintro e w1 ⟨rfl, hb1⟩)
    | (go_at_call 9; refine (hps.out _).mono ?_; rintro e w2 ⟨rfl, hb2⟩)
    | (with_reducible refine wpList_store_row rfl 25 (.tmp 7) (.tmp 18) rfl w2.heap.size U.toArray rfl rfl 25 _ (heap_alloc_new w2 _) hszUa.out (Eq.trans (by kernel_rfl) h32U.out) honeU.out ?_; refine Hid.out ?_))
  refine Lib.hid ?_
  generalize hw3 : World.setRow _ _ _ = w3
  obtain ⟨r7, hb3⟩ := row_new_set (xs := U) hw3
  have r3 := Row.new w 25 TT
  have hba : Below w.heap.size w (w.alloc (.cells TT.toArray 25)) := (Below.refl _ w).alloc (Nat.le_refl _) _
  have sa : (w.alloc (.cells TT.toArray 25)).heap.size = w.heap.size + 1 := World.size_alloc _ _
  have hb13 := below_step (below_step hb1 hb2) hb3
  have r3 := r3.later hb13 r3.lt
  have hb3w := hba.trans (hb13.mono hba.size)
  clear hw3 hb1 hb2 hb3 hb13 hba sa
  generalize w2.heap.size = g7 at *
  go_wp2_with (first
    | (go_at_call 10; refine (hrp.out _).mono ?_; rintro e w4 ⟨rfl, hb4⟩)
    | (with_reducible refine wpList_store_row rfl 25 (.tmp 9) (.tmp 23) rfl w4.heap.size U.toArray rfl rfl 25 _ (heap_alloc_new w4 _) hszUa.out (Eq.trans (by kernel_rfl) h32U.out) honeU.out ?_; refine Hid.out ?_))
  refine Lib.hid ?_
  generalize hw5 : World.setRow _ _ _ = w5
  obtain ⟨r9, hb5⟩ := row_new_set (xs := U) hw5
  have hb35 := below_step hb4 hb5
  have r3 := r3.later hb35 r3.lt
  have r7 := r7.later hb35 r7.lt
  have hb5w := hb3w.trans (hb35.mono hb3w.size)
  have H3 := Lib.hid (show w5.heap[w.heap.size]? = some (.cells TT.toArray 25 (0, 0)) from r3)
  clear hw5 hb4 hb5 hb35 hb3w
  generalize w4.heap.size = g9 at *
  go_wp2_with (first
    | (with_reducible refine wpList_load_row rfl 25 (.tmp 3) rfl w.heap.size rfl 25 TT.toArray (0, 0) _ H3.out Try.underlying25 rfl hszTa.out ?_)
    | (go_at_call 11; refine (htx.out _).mono ?_; rintro e w6 ⟨rfl, hb6⟩)
    | (go_at_call 9; refine (hpt.out _).mono ?_; rintro e w8 ⟨rfl, hb8⟩)
    | (with_reducible refine wpList_store_row rfl 25 (.tmp 11) (.tmp 29) rfl w8.heap.size TT.toArray rfl rfl 25 _ (heap_alloc_new w8 _) hszTa.out (Eq.trans (by kernel_rfl) h32T.out) honeT.out ?_; refine Hid.out ?_))
  refine Lib.hid ?_
  generalize hw10 : World.setRow _ _ _ = w10
  obtain ⟨r11, hb10⟩ := row_new_set (xs := TT) hw10
  have hb510 := below_step (below_step hb6 hb8) hb10
  have r3 := r3.later hb510 r3.lt
  have r7 := r7.later hb510 r7.lt
  have r9 := r9.later hb510 r9.lt
  have hb10w := hb5w.trans (hb510.mono hb5w.size)
  clear hw10 hb6 hb8 hb10 hb510 hb5w H3
  generalize w8.heap.size = g11 at *
  go_wp2_with fail
  refine wp_region_noPanic ?_
  refine wp_region_held_drew (S := fun w' => Below w10.heap.size w10 w') (by kernel_rfl) ((Below.refl _ _).drew) (fun hHeld => ?_)
  have hAll := hHeld
  refine rtake 0 _ (some 31) _ rfl rfl (by kernel_rfl) (by kernel_rfl) (by kernel_rfl) (fun _ _ _ h => h) (by rfl) hHeld (by intro w hS; exact run_load_op 25 (.tmp 3) rfl _ 0 rfl TT _ (row_range (r3.later hS r3.lt)) Try.underlying25 rfl hszT.out) ?_
  try (rw [put_some]; dsimp only [List.set])
  refine rtake 2 _ (some 33) _ rfl rfl (by kernel_rfl) (by kernel_rfl) (by kernel_rfl) (fun _ _ _ h => h) (by rfl) hHeld (by intro w hS; exact run_load_op 25 (.tmp 3) rfl _ 0 rfl TT _ (row_range (r3.later hS r3.lt)) Try.underlying25 rfl hszT.out) ?_
  try (rw [put_some]; dsimp only [List.set])
  refine wpAnyH_ready (rs := [1]) (by kernel_rfl) (by simp) (AllReadyH.cons (o := _) rfl (fun K hK => ?_) AllReadyH.nil)
  go_simp
  refine (htx.out _).mono ?_; rintro e w11 ⟨rfl, hb11⟩
  try go_wp2_with fail
  refine hK.out _ _ (below_step hHeld hb11) (fun _ => ?_)
  clear hK K
  try (rw [put_some]; dsimp only [List.set])
  have hAll := below_step hAll hb11
  refine wpAnyH_narrow (S' := fun w' => Below w11.heap.size w11 w') (fun _ h => below_step (below_step hHeld hb11) h) _ _ _ _ ?_
  clear hHeld
  have hHeld : Below w11.heap.size w11 w11 := Below.refl _ _
  refine wpAnyH_ready (rs := [3]) (by kernel_rfl) (by simp) (AllReadyH.cons (o := _) rfl (fun K hK => ?_) AllReadyH.nil)
  go_simp
  refine (hrx.out _).mono ?_; rintro e w12 ⟨rfl, hb12⟩
  try go_wp2_with fail
  refine hK.out _ _ (below_step hHeld hb12) (fun _ => ?_)
  clear hK K
  try (rw [put_some]; dsimp only [List.set])
  have hAll := below_step hAll hb12
  refine wpAnyH_narrow (S' := fun w' => Below w12.heap.size w12 w') (fun _ h => below_step (below_step hHeld hb12) h) _ _ _ _ ?_
  clear hHeld
  have hHeld : Below w12.heap.size w12 w12 := Below.refl _ _
  refine rtake 4 _ (some 35) _ rfl rfl (by kernel_rfl) (by kernel_rfl) (by kernel_rfl) (fun _ _ _ h => h) (by rfl) hHeld (by intro w hS; go_simp; try with_reducible rfl) ?_
  try (rw [put_some]; dsimp only [List.set])
  refine rtake 5 _ (some 36) _ rfl rfl (by kernel_rfl) (by kernel_rfl) (by kernel_rfl) (fun _ _ _ h => h) (by rfl) hHeld (by intro w hS; go_simp; try with_reducible rfl) ?_
  try (rw [put_some]; dsimp only [List.set])
  refine rtake 6 _ (some 37) _ rfl rfl (by kernel_rfl) (by kernel_rfl) (by kernel_rfl) (fun _ _ _ h => h) (by rfl) hHeld (by intro w hS; exact run_load_op 25 (.tmp 7) rfl g7 0 rfl U _ (row_range ((r7.later hAll r7.lt).later hS (Nat.lt_of_lt_of_le r7.lt hAll.size))) Try.underlying25 rfl hszU.out) ?_
  try (rw [put_some]; dsimp only [List.set])
  refine rtake 7 _ (some 38) _ rfl rfl (by kernel_rfl) (by kernel_rfl) (by kernel_rfl) (fun _ _ _ h => h) (by rfl) hHeld (by intro w hS; exact run_load_op 25 (.tmp 9) rfl g9 0 rfl U _ (row_range ((r9.later hAll r9.lt).later hS (Nat.lt_of_lt_of_le r9.lt hAll.size))) Try.underlying25 rfl hszU.out) ?_
  try (rw [put_some]; dsimp only [List.set])
  refine rtake 8 _ (some 39) _ rfl rfl (by kernel_rfl) (by kernel_rfl) (by kernel_rfl) (fun _ _ _ h => h) (by rfl) hHeld (by intro w hS; go_simp; try with_reducible rfl) ?_
  try (rw [put_some]; dsimp only [List.set])
  refine rtake 9 _ (some 40) _ rfl rfl (by kernel_rfl) (by kernel_rfl) (by kernel_rfl) (fun _ _ _ h => h) (by rfl) hHeld (by intro w hS; go_simp; try with_reducible rfl) ?_
  try (rw [put_some]; dsimp only [List.set])
  refine rtake 10 _ (some 41) _ rfl rfl (by kernel_rfl) (by kernel_rfl) (by kernel_rfl) (fun _ _ _ h => h) (by rfl) hHeld (by intro w hS; go_simp; try with_reducible rfl) ?_
  try (rw [put_some]; dsimp only [List.set])
  refine rtake 11 _ (some 42) _ rfl rfl (by kernel_rfl) (by kernel_rfl) (by kernel_rfl) (fun _ _ _ h => h) (by rfl) hHeld (by intro w hS; go_simp; try with_reducible rfl) ?_
  try (rw [put_some]; dsimp only [List.set])
  refine rtake 12 _ (some 43) _ rfl rfl (by kernel_rfl) (by kernel_rfl) (by kernel_rfl) (fun _ _ _ h => h) (by rfl) hHeld (by intro w hS; go_simp; try with_reducible rfl) ?_
  try (rw [put_some]; dsimp only [List.set])
  refine rtake 13 _ (some 44) _ rfl rfl (by kernel_rfl) (by kernel_rfl) (by kernel_rfl) (fun _ _ _ h => h) (by rfl) hHeld (by intro w hS; go_simp; try with_reducible rfl) ?_
  try (rw [put_some]; dsimp only [List.set])
  refine rtake 14 _ (some 45) _ rfl rfl (by kernel_rfl) (by kernel_rfl) (by kernel_rfl) (fun _ _ _ h => h) (by rfl) hHeld (by intro w hS; go_simp; try with_reducible rfl) ?_
  try (rw [put_some]; dsimp only [List.set])
  refine rtake 15 _ (some 46) _ rfl rfl (by kernel_rfl) (by kernel_rfl) (by kernel_rfl) (fun _ _ _ h => h) (by rfl) hHeld (by intro w hS; go_simp; try with_reducible rfl) ?_
  try (rw [put_some]; dsimp only [List.set])
  refine rtake 16 _ (some 47) _ rfl rfl (by kernel_rfl) (by kernel_rfl) (by kernel_rfl) (fun _ _ _ h => h) (by rfl) hHeld (by intro w hS; go_simp; try with_reducible rfl) ?_
  try (rw [put_some]; dsimp only [List.set])
  refine rtake 17 _ (some 48) _ rfl rfl (by kernel_rfl) (by kernel_rfl) (by kernel_rfl) (fun _ _ _ h => h) (by rfl) hHeld (by intro w hS; go_simp; try with_reducible rfl) ?_
  try (rw [put_some]; dsimp only [List.set])
  refine rtake 18 _ (some 49) _ rfl rfl (by kernel_rfl) (by kernel_rfl) (by kernel_rfl) (fun _ _ _ h => h) (by rfl) hHeld (by intro w hS; go_simp; try with_reducible rfl) ?_
  try (rw [put_some]; dsimp only [List.set])
  refine rtake 19 _ (some 50) _ rfl rfl (by kernel_rfl) (by kernel_rfl) (by kernel_rfl) (fun _ _ _ h => h) (by rfl) hHeld (by intro w hS; exact run_load_op 25 (.tmp 11) rfl g11 0 rfl TT _ (row_range ((r11.later hAll r11.lt).later hS (Nat.lt_of_lt_of_le r11.lt hAll.size))) Try.underlying25 rfl hszT.out) ?_
  try (rw [put_some]; dsimp only [List.set])
  refine rtake 20 _ (some 51) _ rfl rfl (by kernel_rfl) (by kernel_rfl) (by kernel_rfl) (fun _ _ _ h => h) (by rfl) hHeld (by intro w hS; exact run_load_op 25 (.tmp 3) rfl _ 0 rfl TT _ (row_range ((r3.later hAll r3.lt).later hS (Nat.lt_of_lt_of_le r3.lt hAll.size))) Try.underlying25 rfl hszT.out) ?_
  try (rw [put_some]; dsimp only [List.set])
  refine rtake 21 _ (some 52) _ rfl rfl (by kernel_rfl) (by kernel_rfl) (by kernel_rfl) (fun _ _ _ h => h) (by rfl) hHeld (by intro w hS; go_simp; try with_reducible rfl) ?_
  try (rw [put_some]; dsimp only [List.set])
  refine rtake 22 _ (some 53) _ rfl rfl (by kernel_rfl) (by kernel_rfl) (by kernel_rfl) (fun _ _ _ h => h) (by rfl) hHeld (by intro w hS; go_simp; try with_reducible rfl) ?_
  try (rw [put_some]; dsimp only [List.set])
  refine rtake 23 _ (some 54) _ rfl rfl (by kernel_rfl) (by kernel_rfl) (by kernel_rfl) (fun _ _ _ h => h) (by rfl) hHeld (by intro w hS; go_simp; try with_reducible rfl) ?_
  try (rw [put_some]; dsimp only [List.set])
  refine rtake 24 _ (some 55) _ rfl rfl (by kernel_rfl) (by kernel_rfl) (by kernel_rfl) (fun _ _ _ h => h) (by rfl) hHeld (by intro w hS; go_simp; try with_reducible rfl) ?_
  try (rw [put_some]; dsimp only [List.set])
  refine rtake 27 _ (some 58) _ rfl rfl (by kernel_rfl) (by kernel_rfl) (by kernel_rfl) (fun _ _ _ h => h) (by rfl) hHeld (by intro w hS; go_simp; try with_reducible rfl) ?_
  try (rw [put_some]; dsimp only [List.set])
  refine wpAnyH_ready (rs := [25]) (by kernel_rfl) (by simp) (AllReadyH.cons (o := _) rfl (fun K hK => ?_) AllReadyH.nil)
  go_simp
  refine (hnb.out _).mono ?_; rintro e w13 ⟨v13, rfl, hown13, hb13⟩; obtain ⟨A13, c13, rfl, _, hsl13⟩ := Sl.of_own hown13; have hcv13 := conv_later hsl13 _ rfl; clear hown13
  try go_wp2_with fail
  refine hK.out _ _ (below_step hHeld hb13) (fun _ => ?_)
  clear hK K
  try (rw [put_some]; dsimp only [List.set])
  have hAll := below_step hAll hb13
  refine wpAnyH_narrow (S' := fun w' => Below w13.heap.size w13 w') (fun _ h => below_step (below_step hHeld hb13) h) _ _ _ _ ?_
  clear hHeld
  have hHeld : Below w13.heap.size w13 w13 := Below.refl _ _
  refine rtake 26 _ (some 57) _ rfl rfl (by kernel_rfl) (by kernel_rfl) (by kernel_rfl) (fun _ _ _ h => h) (by rfl) hHeld (by intro w hS; go_simp; try with_reducible rfl) ?_
  try (rw [put_some]; dsimp only [List.set])
  refine wpAnyH_ready (rs := [28]) (by kernel_rfl) (by simp) (AllReadyH.cons (o := _) rfl (fun K hK => ?_) AllReadyH.nil)
  go_simp
  refine (hrn.out _).mono ?_; rintro e w14 ⟨v14, rfl, hown14, hb14⟩; obtain ⟨A14, c14, rfl, _, hsl14⟩ := Sl.of_own hown14; have hcv14 := conv_later hsl14 _ rfl; clear hown14
  try go_wp2_with fail
  refine hK.out _ _ (below_step hHeld hb14) (fun _ => ?_)
  clear hK K
  try (rw [put_some]; dsimp only [List.set])
  have hAll := below_step hAll hb14
  refine wpAnyH_narrow (S' := fun w' => Below w14.heap.size w14 w') (fun _ h => below_step (below_step hHeld hb14) h) _ _ _ _ ?_
  clear hHeld
  have hHeld : Below w14.heap.size w14 w14 := Below.refl _ _
  refine rtake 29 _ (some 60) _ rfl rfl (by kernel_rfl) (by kernel_rfl) (by kernel_rfl) (fun _ _ _ h => h) (by rfl) hHeld (by intro w hS; go_simp; try with_reducible rfl) ?_
  try (rw [put_some]; dsimp only [List.set])
  refine rtake 30 _ (some 61) _ rfl rfl (by kernel_rfl) (by kernel_rfl) (by kernel_rfl) (fun _ _ _ h => h) (by rfl) hHeld (by intro w hS; go_simp; try with_reducible rfl) ?_
  try (rw [put_some]; dsimp only [List.set])
  refine rtake 31 _ (some 62) _ rfl rfl (by kernel_rfl) (by kernel_rfl) (by kernel_rfl) (fun _ _ _ h => h) (by rfl) hHeld (by intro w hS; go_simp; try with_reducible rfl) ?_
  try (rw [put_some]; dsimp only [List.set])
  refine rtake 32 _ (some 6) _ rfl rfl (by kernel_rfl) (by kernel_rfl) (by kernel_rfl) (fun _ _ _ h => h) (by rfl) hHeld (by intro w hS; go_simp; try with_reducible rfl) ?_
  try (rw [put_some]; dsimp only [List.set])
  refine wpAnyH_done (by kernel_rfl) ?_ _
  refine NoPanic.normal ?_
  have hbz := hb10w.trans (hAll.mono hb10w.size)
  clear hAll hHeld r3 r7 r9 r11 hb10w
  go_wp2
  go_ret
  exact ⟨rfl, hbz⟩
end Go.Proofs.Ytbleokbjihdopaa
