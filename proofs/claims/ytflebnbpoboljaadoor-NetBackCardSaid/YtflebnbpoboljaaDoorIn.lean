/- LAYER 12: the document's digits of a number. -/
import Derived.Test.YtflebnbpoboljaaDoorIl
import Derived.Test.YtflebnbpoboljaaDoorMw
import Derived.Test.YtflebnbpoboljaaDoorCv
namespace Go.Proofs.YtflebnbpoboljaaDoor
set_option maxRecDepth 100000
open Go Go.RowKit

theorem bstr_cat12 (a b : List UInt8) : bstr a ++ bstr b = bstr (a ++ b) := by
  apply ByteArray.ext
  show (ByteArray.append _ _).data = _
  simp [bstr]
theorem digit_at64 (h : Nat) (hh : h < 16) (w : World) : (Instr.index 9 (.string { data := #[48, 49, 50, 51, 52, 53, 54, 55, 56, 57, 97, 98, 99, 100, 101, 102] }) (.int .i64 (h : Int))).run Tryd.prog w = .ok (.int .u8 ((hexD h).toNat : Int)) w := by
  have : h = 0 ∨ h = 1 ∨ h = 2 ∨ h = 3 ∨ h = 4 ∨ h = 5 ∨ h = 6 ∨ h = 7 ∨ h = 8 ∨ h = 9 ∨ h = 10 ∨ h = 11 ∨ h = 12 ∨ h = 13 ∨ h = 14 ∨ h = 15 := by omega
  clear hh
  rcases this with rfl | rfl | rfl | rfl | rfl | rfl | rfl | rfl | rfl | rfl | rfl | rfl | rfl | rfl | rfl | rfl <;> rfl
set_option maxHeartbeats 1000000 in
theorem rnum10_any (k : Nat) : ∀ (n : Nat) (w : World), n ≤ k → n ≤ 9223372036854775807 →
    Calls Tryd.prog 43 #[.int .i64 n, .int .i64 10] w fun e w' => e = .returned (.string (bstr (numL 10 n))) ∧ Below w.heap.size w w' := by
  induction k using Nat.strongRecOn with
  | _ k ih =>
    intro n w hk hm
    by_cases hlt : n < 10
    · have hN := Lib.hid (numL_small 10 n hlt)
      have hlt' : (n : Int) < 10 := by omega
      have hd := digit_at64 n (by omega)
      generalize hexD n = x at *
      have hsl := sl_lit w [x] #[.int .u8 (x.toNat : Int)] (0, 0) rfl 1 rfl
      have hcv := conv_bytes hsl 1 rfl
      have hb : Below w.heap.size w (w.alloc (.cells #[.int .u8 (x.toNat : Int)] 5 (0, 0))) := (Below.refl _ w).alloc (Nat.le_refl _) _
      clear hsl ih
      go_enter Tryd.func43, Tryd.ntmps43
      go_wp2_with fail
      go_ret
      exact ⟨by rw [hN.out]; rfl, hb⟩
    · have hge : (10 : Int) ≤ (n : Int) := by omega
      have hN := Lib.hid (numL_great 10 n (by omega) (by omega))
      have hq := Lib.hid (show ∀ w', Calls Tryd.prog 43 #[.int .i64 ((n : Int) / 10), .int .i64 10] w' fun e w'' => e = .returned (.string (bstr (numL 10 (n / 10)))) ∧ Below w'.heap.size w' w'' from fun w' => ih (n / 10) (by omega) (n / 10) w' (Nat.le_refl _) (by omega))
      have hr := Lib.hid (show ∀ w', Calls Tryd.prog 43 #[.int .i64 ((n : Int) % 10), .int .i64 10] w' fun e w'' => e = .returned (.string (bstr [hexD (n % 10)])) ∧ Below w'.heap.size w' w'' from by
        rw [← numL_small 10 (n % 10) (by omega)]; exact fun w' => ih (n % 10) (by omega) (n % 10) w' (Nat.le_refl _) (by omega))
      have hY := numL_len 10 (by omega) 62 (n / 10) (by omega)
      generalize hXn : numL 10 n = X at *
      generalize numL 10 (n / 10) = Y at *
      have hZ : [hexD (n % 10)].length = 1 := rfl
      generalize [hexD (n % 10)] = Z at *
      have hl1 : (bstr Y).size + (bstr Z).size ≤ 9223372036854775807 := by rw [size_bstr, size_bstr]; omega
      have hw1 : IntKind.i64.wrap ((n : Int) / 10) = (n : Int) / 10 := by rw [IntKind.wrap_i64]; omega
      have hw2 : ((n : Int)).tmod 10 = (n : Int) % 10 := Int.tmod_eq_emod_of_nonneg (by omega)
      clear ih hXn
      obtain ⟨w3, rfl⟩ : ∃ w3 : World, w3 = w := ⟨_, rfl⟩
      go_enter Tryd.func43, Tryd.ntmps43
      go_wp2_with fail
      refine wp_region_noPanic ?_
      refine wp_region_held_drew (S := fun w' => Below w3.heap.size w3 w') (by kernel_rfl) ((Below.refl _ _).drew) (fun hHeld => ?_)
      have hB := hHeld
      refine rtake 0 _ (some 12) _ rfl rfl (by kernel_rfl) (by kernel_rfl) (by kernel_rfl) (fun _ _ _ h => h) (by rfl) hHeld (by intro w hS; go_simp; try with_reducible rfl) ?_
      try (first | (rw [put_some]; dsimp only [List.set]) | rw [put_none])
      refine rtake 1 _ (some 13) _ rfl rfl (by kernel_rfl) (by kernel_rfl) (by kernel_rfl) (fun _ _ _ h => h) (by rfl) hHeld (by intro w hS; go_simp; try with_reducible rfl) ?_
      try (first | (rw [put_some]; dsimp only [List.set]) | rw [put_none])
      refine rtake 2 _ (some 14) _ rfl rfl (by kernel_rfl) (by kernel_rfl) (by kernel_rfl) (fun _ _ _ h => h) (by rfl) hHeld (by intro w hS; go_simp; try with_reducible rfl) ?_
      try (first | (rw [put_some]; dsimp only [List.set]) | rw [put_none])
      refine rtake 3 _ (some 15) _ rfl rfl (by kernel_rfl) (by kernel_rfl) (by kernel_rfl) (fun _ _ _ h => h) (by rfl) hHeld (by intro w hS; go_simp; try with_reducible rfl) ?_
      try (first | (rw [put_some]; dsimp only [List.set]) | rw [put_none])
      refine rtake 5 _ (some 17) _ rfl rfl (by kernel_rfl) (by kernel_rfl) (by kernel_rfl) (fun _ _ _ h => h) (by rfl) hHeld (by intro w hS; go_simp; try with_reducible rfl) ?_
      try (first | (rw [put_some]; dsimp only [List.set]) | rw [put_none])
      refine rtake 6 _ (some 18) _ rfl rfl (by kernel_rfl) (by kernel_rfl) (by kernel_rfl) (fun _ _ _ h => h) (by rfl) hHeld (by intro w hS; go_simp; try with_reducible rfl) ?_
      try (first | (rw [put_some]; dsimp only [List.set]) | rw [put_none])
      refine rtake 7 _ (some 19) _ rfl rfl (by kernel_rfl) (by kernel_rfl) (by kernel_rfl) (fun _ _ _ h => h) (by rfl) hHeld (by intro w hS; go_simp; try with_reducible rfl) ?_
      try (first | (rw [put_some]; dsimp only [List.set]) | rw [put_none])
      refine rtake 8 _ (some 20) _ rfl rfl (by kernel_rfl) (by kernel_rfl) (by kernel_rfl) (fun _ _ _ h => h) (by rfl) hHeld (by intro w hS; go_simp; try with_reducible rfl) ?_
      try (first | (rw [put_some]; dsimp only [List.set]) | rw [put_none])
      refine wpAnyH_ready (rs := [4]) (by kernel_rfl) (by simp) (AllReadyH.cons (o := _) rfl (fun K hK => ?_) AllReadyH.nil)
      go_simp
      refine (hq.out _).mono ?_; rintro e ww34 ⟨rfl, hqw34⟩
      try go_wp2_with fail
      refine hK.out _ _ (hHeld.trans (hqw34.mono hHeld.size)) (fun hHeld' => ?_)
      clear hK K
      try (first | (rw [put_some]; dsimp only [List.set]) | rw [put_none])
      have hB := below_step hB hqw34
      have hB4 : Below ww34.heap.size ww34 ww34 := Below.refl _ _
      refine wpAnyH_narrow (S' := fun w' => Below ww34.heap.size ww34 w') (fun _ h => (hHeld.trans (hqw34.mono hHeld.size)).trans (h.mono (hHeld.trans (hqw34.mono hHeld.size)).size)) _ _ _ _ ?_
      clear hHeld
      have hHeld : Below ww34.heap.size ww34 ww34 := Below.refl _ _
      refine wpAnyH_ready (rs := [9]) (by kernel_rfl) (by simp) (AllReadyH.cons (o := _) rfl (fun K hK => ?_) AllReadyH.nil)
      go_simp
      refine (hr.out _).mono ?_; rintro e ww39 ⟨rfl, hqw39⟩
      try go_wp2_with fail
      refine hK.out _ _ (hHeld.trans (hqw39.mono hHeld.size)) (fun hHeld' => ?_)
      clear hK K
      try (first | (rw [put_some]; dsimp only [List.set]) | rw [put_none])
      have hB := below_step hB hqw39
      have hB4 := below_step hB4 hqw39
      have hB9 : Below ww39.heap.size ww39 ww39 := Below.refl _ _
      refine wpAnyH_narrow (S' := fun w' => Below ww39.heap.size ww39 w') (fun _ h => (hHeld.trans (hqw39.mono hHeld.size)).trans (h.mono (hHeld.trans (hqw39.mono hHeld.size)).size)) _ _ _ _ ?_
      clear hHeld
      have hHeld : Below ww39.heap.size ww39 ww39 := Below.refl _ _
      refine rtake 10 _ (some 22) _ rfl rfl (by kernel_rfl) (by kernel_rfl) (by kernel_rfl) (fun _ _ _ h => h) (by rfl) hHeld (by intro w hS; go_simp; rw [if_neg (Nat.not_lt.2 hl1)]) ?_
      try (first | (rw [put_some]; dsimp only [List.set]) | rw [put_none])
      refine rtake 11 _ (some 4) _ rfl rfl (by kernel_rfl) (by kernel_rfl) (by kernel_rfl) (fun _ _ _ h => h) (by rfl) hHeld (by intro w hS; go_simp; try with_reducible rfl) ?_
      try (first | (rw [put_some]; dsimp only [List.set]) | rw [put_none])
      refine wpAnyH_done (by kernel_rfl) ?_ _
      refine NoPanic.normal ?_
      have hBe := hB
      go_wp2
      go_ret
      exact ⟨by rw [hN.out, ← bstr_cat12]; rfl, hBe⟩
set_option maxHeartbeats 1000000 in
theorem rnum16_any (k : Nat) : ∀ (n : Nat) (w : World), n ≤ k → n ≤ 9223372036854775807 →
    Calls Tryd.prog 43 #[.int .i64 n, .int .i64 16] w fun e w' => e = .returned (.string (bstr (numL 16 n))) ∧ Below w.heap.size w w' := by
  induction k using Nat.strongRecOn with
  | _ k ih =>
    intro n w hk hm
    by_cases hlt : n < 16
    · have hN := Lib.hid (numL_small 16 n hlt)
      have hlt' : (n : Int) < 16 := by omega
      have hd := digit_at64 n (by omega)
      generalize hexD n = x at *
      have hsl := sl_lit w [x] #[.int .u8 (x.toNat : Int)] (0, 0) rfl 1 rfl
      have hcv := conv_bytes hsl 1 rfl
      have hb : Below w.heap.size w (w.alloc (.cells #[.int .u8 (x.toNat : Int)] 5 (0, 0))) := (Below.refl _ w).alloc (Nat.le_refl _) _
      clear hsl ih
      go_enter Tryd.func43, Tryd.ntmps43
      go_wp2_with fail
      go_ret
      exact ⟨by rw [hN.out]; rfl, hb⟩
    · have hge : (16 : Int) ≤ (n : Int) := by omega
      have hN := Lib.hid (numL_great 16 n (by omega) (by omega))
      have hq := Lib.hid (show ∀ w', Calls Tryd.prog 43 #[.int .i64 ((n : Int) / 16), .int .i64 16] w' fun e w'' => e = .returned (.string (bstr (numL 16 (n / 16)))) ∧ Below w'.heap.size w' w'' from fun w' => ih (n / 16) (by omega) (n / 16) w' (Nat.le_refl _) (by omega))
      have hr := Lib.hid (show ∀ w', Calls Tryd.prog 43 #[.int .i64 ((n : Int) % 16), .int .i64 16] w' fun e w'' => e = .returned (.string (bstr [hexD (n % 16)])) ∧ Below w'.heap.size w' w'' from by
        rw [← numL_small 16 (n % 16) (by omega)]; exact fun w' => ih (n % 16) (by omega) (n % 16) w' (Nat.le_refl _) (by omega))
      have hY := numL_len 16 (by omega) 62 (n / 16) (by omega)
      generalize hXn : numL 16 n = X at *
      generalize numL 16 (n / 16) = Y at *
      have hZ : [hexD (n % 16)].length = 1 := rfl
      generalize [hexD (n % 16)] = Z at *
      have hl1 : (bstr Y).size + (bstr Z).size ≤ 9223372036854775807 := by rw [size_bstr, size_bstr]; omega
      have hw1 : IntKind.i64.wrap ((n : Int) / 16) = (n : Int) / 16 := by rw [IntKind.wrap_i64]; omega
      have hw2 : ((n : Int)).tmod 16 = (n : Int) % 16 := Int.tmod_eq_emod_of_nonneg (by omega)
      clear ih hXn
      obtain ⟨w3, rfl⟩ : ∃ w3 : World, w3 = w := ⟨_, rfl⟩
      go_enter Tryd.func43, Tryd.ntmps43
      go_wp2_with fail
      refine wp_region_noPanic ?_
      refine wp_region_held_drew (S := fun w' => Below w3.heap.size w3 w') (by kernel_rfl) ((Below.refl _ _).drew) (fun hHeld => ?_)
      have hB := hHeld
      refine rtake 0 _ (some 12) _ rfl rfl (by kernel_rfl) (by kernel_rfl) (by kernel_rfl) (fun _ _ _ h => h) (by rfl) hHeld (by intro w hS; go_simp; try with_reducible rfl) ?_
      try (first | (rw [put_some]; dsimp only [List.set]) | rw [put_none])
      refine rtake 1 _ (some 13) _ rfl rfl (by kernel_rfl) (by kernel_rfl) (by kernel_rfl) (fun _ _ _ h => h) (by rfl) hHeld (by intro w hS; go_simp; try with_reducible rfl) ?_
      try (first | (rw [put_some]; dsimp only [List.set]) | rw [put_none])
      refine rtake 2 _ (some 14) _ rfl rfl (by kernel_rfl) (by kernel_rfl) (by kernel_rfl) (fun _ _ _ h => h) (by rfl) hHeld (by intro w hS; go_simp; try with_reducible rfl) ?_
      try (first | (rw [put_some]; dsimp only [List.set]) | rw [put_none])
      refine rtake 3 _ (some 15) _ rfl rfl (by kernel_rfl) (by kernel_rfl) (by kernel_rfl) (fun _ _ _ h => h) (by rfl) hHeld (by intro w hS; go_simp; try with_reducible rfl) ?_
      try (first | (rw [put_some]; dsimp only [List.set]) | rw [put_none])
      refine rtake 5 _ (some 17) _ rfl rfl (by kernel_rfl) (by kernel_rfl) (by kernel_rfl) (fun _ _ _ h => h) (by rfl) hHeld (by intro w hS; go_simp; try with_reducible rfl) ?_
      try (first | (rw [put_some]; dsimp only [List.set]) | rw [put_none])
      refine rtake 6 _ (some 18) _ rfl rfl (by kernel_rfl) (by kernel_rfl) (by kernel_rfl) (fun _ _ _ h => h) (by rfl) hHeld (by intro w hS; go_simp; try with_reducible rfl) ?_
      try (first | (rw [put_some]; dsimp only [List.set]) | rw [put_none])
      refine rtake 7 _ (some 19) _ rfl rfl (by kernel_rfl) (by kernel_rfl) (by kernel_rfl) (fun _ _ _ h => h) (by rfl) hHeld (by intro w hS; go_simp; try with_reducible rfl) ?_
      try (first | (rw [put_some]; dsimp only [List.set]) | rw [put_none])
      refine rtake 8 _ (some 20) _ rfl rfl (by kernel_rfl) (by kernel_rfl) (by kernel_rfl) (fun _ _ _ h => h) (by rfl) hHeld (by intro w hS; go_simp; try with_reducible rfl) ?_
      try (first | (rw [put_some]; dsimp only [List.set]) | rw [put_none])
      refine wpAnyH_ready (rs := [4]) (by kernel_rfl) (by simp) (AllReadyH.cons (o := _) rfl (fun K hK => ?_) AllReadyH.nil)
      go_simp
      refine (hq.out _).mono ?_; rintro e ww34 ⟨rfl, hqw34⟩
      try go_wp2_with fail
      refine hK.out _ _ (hHeld.trans (hqw34.mono hHeld.size)) (fun hHeld' => ?_)
      clear hK K
      try (first | (rw [put_some]; dsimp only [List.set]) | rw [put_none])
      have hB := below_step hB hqw34
      have hB4 : Below ww34.heap.size ww34 ww34 := Below.refl _ _
      refine wpAnyH_narrow (S' := fun w' => Below ww34.heap.size ww34 w') (fun _ h => (hHeld.trans (hqw34.mono hHeld.size)).trans (h.mono (hHeld.trans (hqw34.mono hHeld.size)).size)) _ _ _ _ ?_
      clear hHeld
      have hHeld : Below ww34.heap.size ww34 ww34 := Below.refl _ _
      refine wpAnyH_ready (rs := [9]) (by kernel_rfl) (by simp) (AllReadyH.cons (o := _) rfl (fun K hK => ?_) AllReadyH.nil)
      go_simp
      refine (hr.out _).mono ?_; rintro e ww39 ⟨rfl, hqw39⟩
      try go_wp2_with fail
      refine hK.out _ _ (hHeld.trans (hqw39.mono hHeld.size)) (fun hHeld' => ?_)
      clear hK K
      try (first | (rw [put_some]; dsimp only [List.set]) | rw [put_none])
      have hB := below_step hB hqw39
      have hB4 := below_step hB4 hqw39
      have hB9 : Below ww39.heap.size ww39 ww39 := Below.refl _ _
      refine wpAnyH_narrow (S' := fun w' => Below ww39.heap.size ww39 w') (fun _ h => (hHeld.trans (hqw39.mono hHeld.size)).trans (h.mono (hHeld.trans (hqw39.mono hHeld.size)).size)) _ _ _ _ ?_
      clear hHeld
      have hHeld : Below ww39.heap.size ww39 ww39 := Below.refl _ _
      refine rtake 10 _ (some 22) _ rfl rfl (by kernel_rfl) (by kernel_rfl) (by kernel_rfl) (fun _ _ _ h => h) (by rfl) hHeld (by intro w hS; go_simp; rw [if_neg (Nat.not_lt.2 hl1)]) ?_
      try (first | (rw [put_some]; dsimp only [List.set]) | rw [put_none])
      refine rtake 11 _ (some 4) _ rfl rfl (by kernel_rfl) (by kernel_rfl) (by kernel_rfl) (fun _ _ _ h => h) (by rfl) hHeld (by intro w hS; go_simp; try with_reducible rfl) ?_
      try (first | (rw [put_some]; dsimp only [List.set]) | rw [put_none])
      refine wpAnyH_done (by kernel_rfl) ?_ _
      refine NoPanic.normal ?_
      have hBe := hB
      go_wp2
      go_ret
      exact ⟨by rw [hN.out, ← bstr_cat12]; rfl, hBe⟩
end Go.Proofs.YtflebnbpoboljaaDoor
