import Derived.Test.YtjieebmcbpdeiaaGreatDoorRaaa
namespace Go.Proofs.YtjieebmcbpdeiaaGreatDoor
set_option maxRecDepth 100000
open Go Go.RowKit
theorem digit_at64 (h : Nat) (hh : h < 16) (w : World) : (Instr.index 9 (.string { data := #[48, 49, 50, 51, 52, 53, 54, 55, 56, 57, 97, 98, 99, 100, 101, 102] }) (.int .i64 (h : Int))).run Tryz.prog w = .ok (.int .u8 ((hexD h).toNat : Int)) w := by
 have : h = 0 ∨ h = 1 ∨ h = 2 ∨ h = 3 ∨ h = 4 ∨ h = 5 ∨ h = 6 ∨ h = 7 ∨ h = 8 ∨ h = 9 ∨ h = 10 ∨ h = 11 ∨ h = 12 ∨ h = 13 ∨ h = 14 ∨ h = 15 := by omega
 clear hh
 rcases this with rfl | rfl | rfl | rfl | rfl | rfl | rfl | rfl | rfl | rfl | rfl | rfl | rfl | rfl | rfl | rfl <;> rfl
set_option maxHeartbeats 1000000 in
theorem rnum10_any (k : Nat) : ∀ (n : Nat) (w : World), n ≤ k → n ≤ 9223372036854775807 →
  Calls Tryz.prog 161 #[.int .i64 n, .int .i64 10] w fun e w' => e = .returned (.string (bstr (numL 10 n))) ∧ Below w.heap.size w w' := by
 induction k using Nat.strongRecOn with
 | _ k ih =>
  intro n w hk hm
  by_cases hlt : n < 10
  ·have hN := Lib.hid (numL_small 10 n hlt)
   have hlt' : (n : Int) < 10 := by omega
   have hd := digit_at64 n (by omega)
   generalize hexD n = x at *
   have hsl := sl_lit w [x] #[.int .u8 (x.toNat : Int)] (0, 0) rfl 1 rfl
   have hcv := conv_bytes hsl 1 rfl
   have hb : Below w.heap.size w (w.alloc (.cells #[.int .u8 (x.toNat : Int)] 5 (0, 0))) := (Below.refl _ w).alloc (Nat.le_refl _) _
   clear hsl ih
   go_enter Tryz.func161, Tryz.ntmps161
   go_wp2_with fail
   go_ret
   exact ⟨by rw [hN.out]; rfl, hb⟩
  ·have hge : (10 : Int) ≤ (n : Int) := by omega
   have hN := Lib.hid (numL_great 10 n (by omega) (by omega))
   have hq := Lib.hid (show ∀ w', Calls Tryz.prog 161 #[.int .i64 ((n : Int) / 10), .int .i64 10] w' fun e w'' => e = .returned (.string (bstr (numL 10 (n / 10)))) ∧ Below w'.heap.size w' w'' from fun w' => ih (n / 10) (by omega) (n / 10) w' (Nat.le_refl _) (by omega))
   have hr := Lib.hid (show ∀ w', Calls Tryz.prog 161 #[.int .i64 ((n : Int) % 10), .int .i64 10] w' fun e w'' => e = .returned (.string (bstr [hexD (n % 10)])) ∧ Below w'.heap.size w' w'' from by
    rw [← numL_small 10 (n % 10) (by omega)]; exact fun w' => ih (n % 10) (by omega) (n % 10) w' (Nat.le_refl _) (by omega))
   have hY := numL_len 10 (by omega) 62 (n / 10) (by omega)
   generalize hXn : numL 10 n = X at *
   generalize numL 10 (n / 10) = Y at *
   have hZ : [hexD (n % 10)].length = 1 := rfl
   generalize [hexD (n % 10)] = Z at *
   have hl1 : (bstr Y).size + (bstr Z).size ≤ 9223372036854775807 := by rw [size_bstr, size_bstr]; omega
   have hw1 : IntKind.i64.wrap ((n : Int) / 10) = (n : Int) / 10 := by rw [IntKind.wrap_i64]; omega
   have hw2 : ((n : Int)).tmod 10 = (n : Int) % 10 := Int.tmod_eq_emod_of_nonneg (by omega)
   clear ih hXn
   obtain ⟨w3, rfl⟩ : ∃ w3 : World, w3 = w := ⟨_, rfl⟩
   go_enter Tryz.func161, Tryz.ntmps161
   go_wp2_with fail
   refine wp_region_noPanic ?_
   refine wp_region_held_drew (S := fun w' => Below w3.heap.size w3 w') (by kernel_rfl) ((Below.refl _ _).drew) (fun hHeld => ?_)
   have hB := hHeld
   refine rtake 0 _ (some 12) _ rfl rfl (by kernel_rfl) (by kernel_rfl) (by kernel_rfl) (fun _ _ _ h => h) (by rfl) hHeld (by intro w hS; go_simp; try with_reducible rfl) ?_
   try (first | (rw [put_some]; dsimp only [List.set]) | rw [put_none])
   refine rtake 1 _ (some 13) _ rfl rfl (by kernel_rfl) (by kernel_rfl) (by kernel_rfl) (fun _ _ _ h => h) (by rfl) hHeld (by intro w hS; go_simp; try with_reducible rfl) ?_
   try (first | (rw [put_some]; dsimp only [List.set]) | rw [put_none])
   refine rtake 2 _ (some 14) _ rfl rfl (by kernel_rfl) (by kernel_rfl) (by kernel_rfl) (fun _ _ _ h => h) (by rfl) hHeld (by intro w hS; go_simp; try with_reducible rfl) ?_
   try (first | (rw [put_some]; dsimp only [List.set]) | rw [put_none])
   refine rtake 3 _ (some 15) _ rfl rfl (by kernel_rfl) (by kernel_rfl) (by kernel_rfl) (fun _ _ _ h => h) (by rfl) hHeld (by intro w hS; go_simp; try with_reducible rfl) ?_
   try (first | (rw [put_some]; dsimp only [List.set]) | rw [put_none])
   refine rtake 5 _ (some 17) _ rfl rfl (by kernel_rfl) (by kernel_rfl) (by kernel_rfl) (fun _ _ _ h => h) (by rfl) hHeld (by intro w hS; go_simp; try with_reducible rfl) ?_
   try (first | (rw [put_some]; dsimp only [List.set]) | rw [put_none])
   refine rtake 6 _ (some 18) _ rfl rfl (by kernel_rfl) (by kernel_rfl) (by kernel_rfl) (fun _ _ _ h => h) (by rfl) hHeld (by intro w hS; go_simp; try with_reducible rfl) ?_
   try (first | (rw [put_some]; dsimp only [List.set]) | rw [put_none])
   refine rtake 7 _ (some 19) _ rfl rfl (by kernel_rfl) (by kernel_rfl) (by kernel_rfl) (fun _ _ _ h => h) (by rfl) hHeld (by intro w hS; go_simp; try with_reducible rfl) ?_
   try (first | (rw [put_some]; dsimp only [List.set]) | rw [put_none])
   refine rtake 8 _ (some 20) _ rfl rfl (by kernel_rfl) (by kernel_rfl) (by kernel_rfl) (fun _ _ _ h => h) (by rfl) hHeld (by intro w hS; go_simp; try with_reducible rfl) ?_
   try (first | (rw [put_some]; dsimp only [List.set]) | rw [put_none])
   refine wpAnyH_ready (rs := [4]) (by kernel_rfl) (by simp) (AllReadyH.cons (o := _) rfl (fun K hK => ?_) AllReadyH.nil)
   go_simp
   refine (hq.out _).mono ?_; rintro e ww34 ⟨rfl, hqw34⟩
   try go_wp2_with fail
   refine hK.out _ _ (hHeld.trans (hqw34.mono hHeld.size)) (fun hHeld' => ?_)
   clear hK K
   try (first | (rw [put_some]; dsimp only [List.set]) | rw [put_none])
   have hB := below_step hB hqw34
   have hB4 : Below ww34.heap.size ww34 ww34 := Below.refl _ _
   refine wpAnyH_narrow (S' := fun w' => Below ww34.heap.size ww34 w') (fun _ h => (hHeld.trans (hqw34.mono hHeld.size)).trans (h.mono (hHeld.trans (hqw34.mono hHeld.size)).size)) _ _ _ _ ?_
   clear hHeld
   have hHeld : Below ww34.heap.size ww34 ww34 := Below.refl _ _
   refine wpAnyH_ready (rs := [9]) (by kernel_rfl) (by simp) (AllReadyH.cons (o := _) rfl (fun K hK => ?_) AllReadyH.nil)
   go_simp
   refine (hr.out _).mono ?_; rintro e ww39 ⟨rfl, hqw39⟩
   try go_wp2_with fail
   refine hK.out _ _ (hHeld.trans (hqw39.mono hHeld.size)) (fun hHeld' => ?_)
   clear hK K
   try (first | (rw [put_some]; dsimp only [List.set]) | rw [put_none])
   have hB := below_step hB hqw39
   have hB4 := below_step hB4 hqw39
   have hB9 : Below ww39.heap.size ww39 ww39 := Below.refl _ _
   refine wpAnyH_narrow (S' := fun w' => Below ww39.heap.size ww39 w') (fun _ h => (hHeld.trans (hqw39.mono hHeld.size)).trans (h.mono (hHeld.trans (hqw39.mono hHeld.size)).size)) _ _ _ _ ?_
   clear hHeld
   have hHeld : Below ww39.heap.size ww39 ww39 := Below.refl _ _
   refine rtake 10 _ (some 22) _ rfl rfl (by kernel_rfl) (by kernel_rfl) (by kernel_rfl) (fun _ _ _ h => h) (by rfl) hHeld (by intro w hS; go_simp; rw [if_neg (Nat.not_lt.2 hl1)]) ?_
   try (first | (rw [put_some]; dsimp only [List.set]) | rw [put_none])
   refine rtake 11 _ (some 4) _ rfl rfl (by kernel_rfl) (by kernel_rfl) (by kernel_rfl) (fun _ _ _ h => h) (by rfl) hHeld (by intro w hS; go_simp; try with_reducible rfl) ?_
   try (first | (rw [put_some]; dsimp only [List.set]) | rw [put_none])
   refine wpAnyH_done (by kernel_rfl) ?_ _
   refine NoPanic.normal ?_
   have hBe := hB
   go_wp2
   go_ret
   exact ⟨by rw [hN.out, ← bstr_cat12]; rfl, hBe⟩
set_option maxHeartbeats 1000000 in
theorem rnum16_any (k : Nat) : ∀ (n : Nat) (w : World), n ≤ k → n ≤ 9223372036854775807 →
  Calls Tryz.prog 161 #[.int .i64 n, .int .i64 16] w fun e w' => e = .returned (.string (bstr (numL 16 n))) ∧ Below w.heap.size w w' := by
 induction k using Nat.strongRecOn with
 | _ k ih =>
  intro n w hk hm
  by_cases hlt : n < 16
  ·have hN := Lib.hid (numL_small 16 n hlt)
   have hlt' : (n : Int) < 16 := by omega
   have hd := digit_at64 n (by omega)
   generalize hexD n = x at *
   have hsl := sl_lit w [x] #[.int .u8 (x.toNat : Int)] (0, 0) rfl 1 rfl
   have hcv := conv_bytes hsl 1 rfl
   have hb : Below w.heap.size w (w.alloc (.cells #[.int .u8 (x.toNat : Int)] 5 (0, 0))) := (Below.refl _ w).alloc (Nat.le_refl _) _
   clear hsl ih
   go_enter Tryz.func161, Tryz.ntmps161
   go_wp2_with fail
   go_ret
   exact ⟨by rw [hN.out]; rfl, hb⟩
  ·have hge : (16 : Int) ≤ (n : Int) := by omega
   have hN := Lib.hid (numL_great 16 n (by omega) (by omega))
   have hq := Lib.hid (show ∀ w', Calls Tryz.prog 161 #[.int .i64 ((n : Int) / 16), .int .i64 16] w' fun e w'' => e = .returned (.string (bstr (numL 16 (n / 16)))) ∧ Below w'.heap.size w' w'' from fun w' => ih (n / 16) (by omega) (n / 16) w' (Nat.le_refl _) (by omega))
   have hr := Lib.hid (show ∀ w', Calls Tryz.prog 161 #[.int .i64 ((n : Int) % 16), .int .i64 16] w' fun e w'' => e = .returned (.string (bstr [hexD (n % 16)])) ∧ Below w'.heap.size w' w'' from by
    rw [← numL_small 16 (n % 16) (by omega)]; exact fun w' => ih (n % 16) (by omega) (n % 16) w' (Nat.le_refl _) (by omega))
   have hY := numL_len 16 (by omega) 62 (n / 16) (by omega)
   generalize hXn : numL 16 n = X at *
   generalize numL 16 (n / 16) = Y at *
   have hZ : [hexD (n % 16)].length = 1 := rfl
   generalize [hexD (n % 16)] = Z at *
   have hl1 : (bstr Y).size + (bstr Z).size ≤ 9223372036854775807 := by rw [size_bstr, size_bstr]; omega
   have hw1 : IntKind.i64.wrap ((n : Int) / 16) = (n : Int) / 16 := by rw [IntKind.wrap_i64]; omega
   have hw2 : ((n : Int)).tmod 16 = (n : Int) % 16 := Int.tmod_eq_emod_of_nonneg (by omega)
   clear ih hXn
   obtain ⟨w3, rfl⟩ : ∃ w3 : World, w3 = w := ⟨_, rfl⟩
   go_enter Tryz.func161, Tryz.ntmps161
   go_wp2_with fail
   refine wp_region_noPanic ?_
   refine wp_region_held_drew (S := fun w' => Below w3.heap.size w3 w') (by kernel_rfl) ((Below.refl _ _).drew) (fun hHeld => ?_)
   have hB := hHeld
   refine rtake 0 _ (some 12) _ rfl rfl (by kernel_rfl) (by kernel_rfl) (by kernel_rfl) (fun _ _ _ h => h) (by rfl) hHeld (by intro w hS; go_simp; try with_reducible rfl) ?_
   try (first | (rw [put_some]; dsimp only [List.set]) | rw [put_none])
   refine rtake 1 _ (some 13) _ rfl rfl (by kernel_rfl) (by kernel_rfl) (by kernel_rfl) (fun _ _ _ h => h) (by rfl) hHeld (by intro w hS; go_simp; try with_reducible rfl) ?_
   try (first | (rw [put_some]; dsimp only [List.set]) | rw [put_none])
   refine rtake 2 _ (some 14) _ rfl rfl (by kernel_rfl) (by kernel_rfl) (by kernel_rfl) (fun _ _ _ h => h) (by rfl) hHeld (by intro w hS; go_simp; try with_reducible rfl) ?_
   try (first | (rw [put_some]; dsimp only [List.set]) | rw [put_none])
   refine rtake 3 _ (some 15) _ rfl rfl (by kernel_rfl) (by kernel_rfl) (by kernel_rfl) (fun _ _ _ h => h) (by rfl) hHeld (by intro w hS; go_simp; try with_reducible rfl) ?_
   try (first | (rw [put_some]; dsimp only [List.set]) | rw [put_none])
   refine rtake 5 _ (some 17) _ rfl rfl (by kernel_rfl) (by kernel_rfl) (by kernel_rfl) (fun _ _ _ h => h) (by rfl) hHeld (by intro w hS; go_simp; try with_reducible rfl) ?_
   try (first | (rw [put_some]; dsimp only [List.set]) | rw [put_none])
   refine rtake 6 _ (some 18) _ rfl rfl (by kernel_rfl) (by kernel_rfl) (by kernel_rfl) (fun _ _ _ h => h) (by rfl) hHeld (by intro w hS; go_simp; try with_reducible rfl) ?_
   try (first | (rw [put_some]; dsimp only [List.set]) | rw [put_none])
   refine rtake 7 _ (some 19) _ rfl rfl (by kernel_rfl) (by kernel_rfl) (by kernel_rfl) (fun _ _ _ h => h) (by rfl) hHeld (by intro w hS; go_simp; try with_reducible rfl) ?_
   try (first | (rw [put_some]; dsimp only [List.set]) | rw [put_none])
   refine rtake 8 _ (some 20) _ rfl rfl (by kernel_rfl) (by kernel_rfl) (by kernel_rfl) (fun _ _ _ h => h) (by rfl) hHeld (by intro w hS; go_simp; try with_reducible rfl) ?_
   try (first | (rw [put_some]; dsimp only [List.set]) | rw [put_none])
   refine wpAnyH_ready (rs := [4]) (by kernel_rfl) (by simp) (AllReadyH.cons (o := _) rfl (fun K hK => ?_) AllReadyH.nil)
   go_simp
   refine (hq.out _).mono ?_; rintro e ww34 ⟨rfl, hqw34⟩
   try go_wp2_with fail
   refine hK.out _ _ (hHeld.trans (hqw34.mono hHeld.size)) (fun hHeld' => ?_)
   clear hK K
   try (first | (rw [put_some]; dsimp only [List.set]) | rw [put_none])
   have hB := below_step hB hqw34
   have hB4 : Below ww34.heap.size ww34 ww34 := Below.refl _ _
   refine wpAnyH_narrow (S' := fun w' => Below ww34.heap.size ww34 w') (fun _ h => (hHeld.trans (hqw34.mono hHeld.size)).trans (h.mono (hHeld.trans (hqw34.mono hHeld.size)).size)) _ _ _ _ ?_
   clear hHeld
   have hHeld : Below ww34.heap.size ww34 ww34 := Below.refl _ _
   refine wpAnyH_ready (rs := [9]) (by kernel_rfl) (by simp) (AllReadyH.cons (o := _) rfl (fun K hK => ?_) AllReadyH.nil)
   go_simp
   refine (hr.out _).mono ?_; rintro e ww39 ⟨rfl, hqw39⟩
   try go_wp2_with fail
   refine hK.out _ _ (hHeld.trans (hqw39.mono hHeld.size)) (fun hHeld' => ?_)
   clear hK K
   try (first | (rw [put_some]; dsimp only [List.set]) | rw [put_none])
   have hB := below_step hB hqw39
   have hB4 := below_step hB4 hqw39
   have hB9 : Below ww39.heap.size ww39 ww39 := Below.refl _ _
   refine wpAnyH_narrow (S' := fun w' => Below ww39.heap.size ww39 w') (fun _ h => (hHeld.trans (hqw39.mono hHeld.size)).trans (h.mono (hHeld.trans (hqw39.mono hHeld.size)).size)) _ _ _ _ ?_
   clear hHeld
   have hHeld : Below ww39.heap.size ww39 ww39 := Below.refl _ _
   refine rtake 10 _ (some 22) _ rfl rfl (by kernel_rfl) (by kernel_rfl) (by kernel_rfl) (fun _ _ _ h => h) (by rfl) hHeld (by intro w hS; go_simp; rw [if_neg (Nat.not_lt.2 hl1)]) ?_
   try (first | (rw [put_some]; dsimp only [List.set]) | rw [put_none])
   refine rtake 11 _ (some 4) _ rfl rfl (by kernel_rfl) (by kernel_rfl) (by kernel_rfl) (fun _ _ _ h => h) (by rfl) hHeld (by intro w hS; go_simp; try with_reducible rfl) ?_
   try (first | (rw [put_some]; dsimp only [List.set]) | rw [put_none])
   refine wpAnyH_done (by kernel_rfl) ?_ _
   refine NoPanic.normal ?_
   have hBe := hB
   go_wp2
   go_ret
   exact ⟨by rw [hN.out, ← bstr_cat12]; rfl, hBe⟩
def intsV (l : List Nat) : List Value := l.map fun n : Nat => .int .i64 (n : Int)
theorem length_intsV (l : List Nat) : (intsV l).length = l.length := by unfold intsV; simp
theorem get_intsV (l : List Nat) (i : Nat) (h : i < l.length) : (intsV l)[i]? = some (.int .i64 (l.getD i 0 : Nat)) := by unfold intsV; simp [h]
theorem intsV_append (l m : List Nat) : intsV (l ++ m) = intsV l ++ intsV m := by unfold intsV; simp
theorem intsV_drop (l : List Nat) (k : Nat) : intsV (l.drop k) = (intsV l).drop k := by unfold intsV; rw [List.map_drop]
theorem intsV_take (l : List Nat) (k : Nat) : intsV (l.take k) = (intsV l).take k := by unfold intsV; rw [List.map_take]
theorem intsV_one (l : List Nat) : ∀ v ∈ intsV l, v.oneCell' = true := by
 intro v hv
 obtain ⟨_, _, rfl⟩ := List.mem_map.1 hv
 rfl
theorem index_ints (A : Option Addr) (b o n c k : Nat) (hA : A = some ⟨b, o, none⟩) (hk : k < n) (w : World) :
  (Instr.indexAt 134 (.slice A n c) (.int .i64 k)).run Tryz.prog w = .ok (.pointer (some ⟨b, o + k, none⟩)) w := by
 subst hA
 have h : (k : Int) < (n : Int) := by omega
 go_simp
theorem ints_cell {w : World} {b o c : Nat} {l : List Nat} (h : Sl w (some ⟨b, o, none⟩) c (intsV l)) (k : Nat) (hk : k < l.length) : w.cell? ⟨b, o + k, none⟩ = some (.int .i64 (l.getD k 0 : Nat)) := by
 obtain ⟨b', o', hA, _, hc⟩ := h.rd.get (i := k) (by rw [length_intsV]; exact hk)
 cases hA
 rw [hc, get_intsV _ _ hk]
theorem zerosL_at (l : List Nat) (k : Nat) (h : k < l.length) : zerosL (l.drop k) = if l.getD k 0 = 0 then zerosL (l.drop (k + 1)) + 1 else 0 := by
 rw [List.drop_eq_getElem_cons h, zerosL, List.getD_eq_getElem?_getD, List.getElem?_eq_getElem h]; rfl
theorem rzeros_any (l : List Nat) (p : Nat) (hp : p ≤ l.length) (hl : l.length ≤ 1000000) (A : Option Addr) (c : Nat) (w : World) (hs : Sl w A c (intsV l)) :
  Calls Tryz.prog 162 #[.slice A l.length c, .int .i64 p] w fun e w' => e = .returned (.int .i64 (zerosL (l.drop p) : Nat)) ∧ w = w' := by
 go_enter Tryz.func162, Tryz.ntmps162
 go_wp2
 go_loop [5] (fun i => ∃ k : Nat, p + k ≤ l.length ∧ i = .int .i64 k ∧ k + zerosL (l.drop (p + k)) = zerosL (l.drop p)) (fun i => 1000001 - (intOf i).toNat)
 case atStart => exact ⟨0, by omega, rfl, by simp⟩
 case round =>
  obtain ⟨k, hk, rfl, hz⟩ := hrel
  have hw1 : IntKind.i64.wrap ((p : Int) + (k : Int)) = ((p + k : Nat) : Int) := by rw [IntKind.wrap_i64]; omega
  by_cases hlt : p + k < l.length
  ·have hlt' : ((p + k : Nat) : Int) < (l.length : Int) := by omega
   obtain ⟨b, o, hA, -, -⟩ := hs.rd.get (i := p + k) (by rw [length_intsV]; exact hlt)
   have hix := index_ints A b o l.length c (p + k) hA hlt w
   have hce := ints_cell (by rw [hA] at hs; exact hs) (p + k) hlt
   have hzk := zerosL_at l (p + k) hlt
   by_cases h0 : l.getD (p + k) 0 = 0
   ·rw [if_pos h0] at hzk
    rw [h0] at hce
    have HZ := Lib.hid hz
    have HK := Lib.hid hzk
    generalize hq : p + k = q at *
    clear hz hzk h0 hs
    go_wp2
    go_round
    case rel => exact ⟨k + 1, by omega, by go_num, by rw [show p + (k + 1) = q + 1 by omega, ← HZ.out, HK.out]; omega⟩
    case measure => simp [intOf]; omega
   ·rw [if_neg h0] at hzk
    have HZ := Lib.hid hz
    have HK := Lib.hid hzk
    have h0' : ((l.getD (p + k) 0 : Nat) : Int) ≠ 0 := by omega
    generalize l.getD (p + k) 0 = x at *
    generalize hq : p + k = q at *
    clear hz hzk h0 hs
    go_wp2
    go_ret
    exact ⟨by rw [← HZ.out, HK.out]; rfl, rfl⟩
  ·have hge : (l.length : Int) ≤ ((p + k : Nat) : Int) := by omega
   have HZ := Lib.hid hz
   clear hz
   go_wp2
   go_ret
   exact ⟨by rw [← HZ.out, List.drop_of_length_le (by omega)]; rfl, rfl⟩
theorem joinN_len (l : List Nat) (h : ∀ n ∈ l, n ≤ 65535) : (joinN l).length ≤ 5 * l.length := by
 induction l with
 | nil => exact Nat.le_refl _
 | cons n l ih =>
  have hn := numL_len 16 (by omega) 3 n (by have := h n (List.mem_cons_self ..); omega)
  cases l with
  | nil => show (numL 16 n).length ≤ _; simp; omega
  | cons m l =>
   have := ih (fun q hq => h q (List.mem_cons_of_mem _ hq))
   show (numL 16 n ++ 58 :: joinN (m :: l)).length ≤ _
   simp only [List.length_append, List.length_cons] at this ⊢
   omega
theorem joinN_take (l : List Nat) (k : Nat) (h : k < l.length) : joinN (l.take (k + 1)) = if k = 0 then numL 16 (l.getD k 0) else joinN (l.take k) ++ [58] ++ numL 16 (l.getD k 0) := by
 have e : l.take (k + 1) = l.take k ++ [l.getD k 0] := by rw [List.take_add_one]; simp [h]
 rw [e, joinN_snoc]
 by_cases hk : k = 0
 ·rw [if_pos hk, if_pos (by rw [hk]; rfl)]
 ·rw [if_neg hk, if_neg (by intro h0; have := congrArg List.length h0; rw [List.length_take, List.length_nil] at this; omega)]
  simp
set_option maxHeartbeats 1000000 in
theorem rjoin_any (l : List Nat) (hm : ∀ n ∈ l, n ≤ 65535) (hl : l.length ≤ 1000000) (A : Option Addr) (c : Nat) (w : World) (hs : Sl w A c (intsV l)) :
  Calls Tryz.prog 163 #[.slice A l.length c] w fun e w' => e = .returned (.string (bstr (joinN l))) ∧ Below w.heap.size w w' := by
 go_enter Tryz.func163, Tryz.ntmps163
 go_wp2
 go_loopw [3, 8] (fun v i wr => ∃ k : Nat, k ≤ l.length ∧ i = .int .i64 k ∧ v = .string (bstr (joinN (l.take k))) ∧ Below w.heap.size w wr) (fun _ i _ => l.length - (intOf i).toNat)
 case atStart => exact ⟨0, by omega, rfl, rfl, Below.refl _ _⟩
 case round =>
  obtain ⟨k, hk, rfl, rfl, hb⟩ := hrel
  by_cases hlt : k < l.length
  ·have hlt' : (k : Int) < (l.length : Int) := by omega
   obtain ⟨b, o, hA, -, -⟩ := hs.rd.get (i := k) (by rw [length_intsV]; exact hlt)
   have hix := index_ints A b o l.length c k hA hlt
   have hce := ints_cell (by rw [hA] at hs; exact hs.later (Nat.le_refl _) hb) k hlt
   have hJ := joinN_take l k hlt
   have hx : l.getD k 0 ≤ 65535 := hm _ (by rw [List.getD_eq_getElem?_getD, List.getElem?_eq_getElem hlt]; exact List.getElem_mem hlt)
   have hn := Lib.hid (fun w' => rnum16_any (l.getD k 0) (l.getD k 0) w' (Nat.le_refl _) (by omega))
   have hnl := numL_len 16 (by omega) 3 (l.getD k 0) (by omega)
   have hjl := joinN_len (l.take k) (fun n hn => hm n (List.mem_of_mem_take hn))
   rw [List.length_take] at hjl
   generalize l.getD k 0 = x at *
   generalize numL 16 x = X at *
   have hz : (bstr (joinN (l.take k))).size = (joinN (l.take k)).length := size_bstr _
   by_cases h0 : k = 0
   ·rw [if_pos h0] at hJ
    have hce0 : wr.cell? ⟨b, o, none⟩ = some (.int .i64 (x : Nat)) := by rw [h0] at hce; exact hce
    have hpos : 0 < l.length := by omega
    have hix0 : ∀ w, (Instr.indexAt 134 (.slice A l.length c) (.int .i64 0)).run Tryz.prog w = .ok (.pointer (some ⟨b, o, none⟩)) w := by rw [h0] at hix; exact hix
    have HJ := Lib.hid (show joinN (l.take (k + 1)) = joinN (l.take k) ++ X by rw [hJ, h0]; rfl)
    generalize joinN (l.take k) = J at *
    have hzX : (bstr X).size = X.length := size_bstr _
    clear hJ hs hA
    go_wp2_with (go_at_call 161; refine (hn.out _).mono ?_; rintro e w1 ⟨rfl, hb1⟩)
    go_roundw
    case rel => exact ⟨k + 1, by omega, by rw [h0]; go_num, by rw [HJ.out, ← bstr_cat12], hb.trans (hb1.mono hb.size)⟩
    case measure => simp [intOf]; omega
   ·rw [if_neg h0] at hJ
    have h0' : (0 : Int) < (k : Int) := by omega
    have HJ := Lib.hid hJ
    generalize joinN (l.take k) = J at *
    have hzX : (bstr X).size = X.length := size_bstr _
    clear hJ hs hA
    go_wp2_with (go_at_call 161; refine (hn.out _).mono ?_; rintro e w1 ⟨rfl, hb1⟩)
    go_roundw
    case rel => exact ⟨k + 1, by omega, by go_num, by rw [HJ.out, ← bstr_cat12, ← bstr_cat12]; rfl, hb.trans (hb1.mono hb.size)⟩
    case measure => simp [intOf]; omega
  ·obtain rfl : k = l.length := by omega
   go_wp2
   go_ret
   exact ⟨by rw [List.take_length]; rfl, hb⟩
theorem size_adr : (Tryz.prog.info? 26).map (·.size) = some 17 := by kernel_rfl
theorem adr_cell {w : World} {g : Nat} {a : Adr} (h : a.Ok) (hr : Row w g 26 (adrV a)) (k : Nat) (hk : k < 16) : w.cell? ⟨g, 1 + k, none⟩ = some (.int .u8 ((a.b.getD k 0).toNat : Int)) := by
 rw [hr.cell, Nat.add_comm]
 show (byts a.b)[k]? = _
 rw [get_byts _ _ (by rw [h]; exact hk)]
theorem adr_v6 {w : World} {g : Nat} {a : Adr} (hr : Row w g 26 (adrV a)) : w.cell? ⟨g, 0, none⟩ = some (.bool a.v6) := by rw [hr.cell]; rfl
theorem checkA_bad (a : Adr) (h : a.Ok) (h6 : a.v6 = false) (k : Nat) (h4 : 4 ≤ k) (hk : k < 16) (hb : a.b.getD k 0 ≠ 0) : checkA a = false := by
 unfold checkA
 rw [h6, Bool.false_or]
 rw [List.all_eq_false]
 refine ⟨a.b.getD k 0, ?_, by simpa using hb⟩
 have hl : k < a.b.length := by rw [h]; exact hk
 have e : (a.b.drop 4)[k - 4]? = some (a.b.getD k 0) := by rw [List.getElem?_drop, show 4 + (k - 4) = k by omega, List.getElem?_eq_getElem hl, List.getD_eq_getElem?_getD, List.getElem?_eq_getElem hl]; rfl
 exact List.mem_of_getElem? e
theorem checkA_good (a : Adr) (h : a.Ok) (hz : ∀ k, 4 ≤ k → k < 16 → a.b.getD k 0 = 0) : checkA a = true := by
 unfold checkA
 rw [Bool.or_eq_true]
 right
 rw [List.all_eq_true]
 intro x hx
 obtain ⟨k, hk⟩ := List.getElem?_of_mem hx
 rw [List.getElem?_drop] at hk
 have hl : 4 + k < a.b.length := (List.getElem?_eq_some_iff.1 hk).1
 have := hz (4 + k) (by omega) (by rw [h] at hl; exact hl)
 rw [List.getD_eq_getElem?_getD, hk] at this
 simpa using this
theorem rcheckA_any (a : Adr) (h : a.Ok) (w : World) :
  Calls Tryz.prog 45 #[.agg (adrV a).toArray] w fun e w' => e = .returned (.bool (checkA a)) ∧ Below w.heap.size w w' := by
 obtain ⟨w1, hw1⟩ : ∃ w1, w1 = w.alloc (.cells (adrV a).toArray 26) := ⟨_, rfl⟩
 have hr : Row w1 w.heap.size 26 (adrV a) := by rw [hw1]; exact Row.new w _ _
 have hb : Below w.heap.size w w1 := by rw [hw1]; exact (Below.refl _ w).alloc (Nat.le_refl _) _
 have hc6 := adr_v6 hr
 obtain ⟨V, hV⟩ : ∃ V, V = adrV a := ⟨_, rfl⟩
 rw [← hV] at hw1 ⊢
 clear hV
 cases h6 : a.v6 with
 | true =>
  rw [h6] at hc6
  have HC := Lib.hid (show checkA a = true by unfold checkA; rw [h6]; rfl)
  clear hr
  go_enter Tryz.func45, Tryz.ntmps45
  subst hw1
  go_wp2
  go_ret
  exact ⟨by rw [HC.out]; rfl, hb⟩
 | false =>
  rw [h6] at hc6
  go_enter Tryz.func45, Tryz.ntmps45
  subst hw1
  go_wp2
  go_loop [3] (fun i => ∃ k : Nat, 4 ≤ k ∧ k ≤ 16 ∧ i = .int .i64 k ∧ ∀ j, 4 ≤ j → j < k → a.b.getD j 0 = 0) (fun i => 16 - (intOf i).toNat)
  case atStart => exact ⟨4, by omega, by omega, rfl, fun j h1 h2 => by omega⟩
  case round =>
   obtain ⟨k, h4, hk, rfl, hz⟩ := hrel
   by_cases hlt : k < 16
   ·have hcb := adr_cell h hr k hlt
    by_cases h0 : a.b.getD k 0 = 0
    ·have HZ := Lib.hid (show ∀ j, 4 ≤ j → j < k + 1 → a.b.getD j 0 = 0 from fun j h1 h2 => by
      by_cases e : j = k
      ·rw [e]; exact h0
      ·exact hz j h1 (by omega))
     rw [h0] at hcb
     clear hz h0 hr
     go_wp2
     go_round
     case rel => exact ⟨k + 1, by omega, by omega, by go_num, HZ.out⟩
     case measure => simp [intOf]; omega
    ·have HC := Lib.hid (checkA_bad a h h6 k h4 hlt h0)
     have h0' : (((a.b.getD k 0).toNat : Int) == 0) = false := by
      rw [beq_eq_false_iff_ne]
      intro he
      exact h0 (UInt8.toNat_inj.1 (by show (a.b.getD k 0).toNat = 0; omega))
     generalize a.b.getD k 0 = x at *
     clear hz h0 hr
     go_wp2
     go_ret
     exact ⟨by rw [HC.out]; rfl, hb⟩
   ·obtain rfl : k = 16 := by omega
    have HC := Lib.hid (checkA_good a h hz)
    clear hz hr
    go_wp2
    go_ret
    exact ⟨by rw [HC.out]; rfl, hb⟩
theorem rtext_bad (a : Adr) (h : a.Ok) (hc : checkA a = false) (w : World) :
  Calls Tryz.prog 123 #[.agg (adrV a).toArray] w fun e w' => e = .returned (.string (bstr (textA a))) ∧ Below w.heap.size w w' := by
 have HT := Lib.hid (show textA a = [] by unfold textA; rw [hc]; rfl)
 obtain ⟨w1, hw1⟩ : ∃ w1, w1 = w.alloc (.cells (adrV a).toArray 26) := ⟨_, rfl⟩
 have hr : Row w1 w.heap.size 26 (adrV a) := by rw [hw1]; exact Row.new w _ _
 have hb : Below w.heap.size w w1 := by rw [hw1]; exact (Below.refl _ w).alloc (Nat.le_refl _) _
 have hchk := Lib.hid (rcheckA_any a h)
 have hT := row_range hr
 obtain ⟨V, hV⟩ : ∃ V, V = adrV a := ⟨_, rfl⟩
 have hl := Lib.hid (show (Tryz.prog.info? 26).map (·.size) = some V.length by rw [hV, length_adrV h, size_adr])
 rw [← hV] at hw1 hchk hT ⊢
 rw [hc] at hchk
 clear hV hr
 go_enter Tryz.func123, Tryz.ntmps123
 subst hw1
 go_wp2_with (first
  | (with_reducible refine wpList_load_mid rfl 26 (.tmp 1) rfl w.heap.size 0 rfl V _ hT Tryz.underlying26 rfl hl.out ?_)
  | (go_at_call 45; refine (hchk.out _).mono ?_; rintro e w2 ⟨rfl, hb2⟩; have hb3 := hb.trans (hb2.mono hb.size)))
 go_ret
 exact ⟨by rw [HT.out]; rfl, hb3⟩
set_option maxHeartbeats 2000000 in
theorem rtext_four (a : Adr) (h : a.Ok) (hc : checkA a = true) (h6 : a.v6 = false) (w : World) :
  Calls Tryz.prog 123 #[.agg (adrV a).toArray] w fun e w' => e = .returned (.string (bstr (textA a))) ∧ Below w.heap.size w w' := by
 obtain ⟨w1, hw1⟩ : ∃ w1, w1 = w.alloc (.cells (adrV a).toArray 26) := ⟨_, rfl⟩
 have hr : Row w1 w.heap.size 26 (adrV a) := by rw [hw1]; exact Row.new w _ _
 have hb : Below w.heap.size w w1 := by rw [hw1]; exact (Below.refl _ w).alloc (Nat.le_refl _) _
 have hchk := Lib.hid (rcheckA_any a h)
 have hT := row_range hr
 have hrl := fun w' (h : Below w1.heap.size w1 w') => hr.later h hr.lt
 have hD : ∀ k, k < 4 → ∃ x : UInt8, a.b.getD k 0 = x := fun k _ => ⟨_, rfl⟩
 have HT := Lib.hid (show textA a = numL 10 (a.b.getD 0 0).toNat ++ [46] ++ numL 10 (a.b.getD 1 0).toNat ++ [46] ++ numL 10 (a.b.getD 2 0).toNat ++ [46] ++ numL 10 (a.b.getD 3 0).toNat by unfold textA; rw [hc, h6]; simp)
 have hE0 := Lib.hid (fun w' (hq : Below w1.heap.size w1 w') => adr_cell h (hrl w' hq) 0 (by omega))
 have hE1 := Lib.hid (fun w' (hq : Below w1.heap.size w1 w') => adr_cell h (hrl w' hq) 1 (by omega))
 have hE2 := Lib.hid (fun w' (hq : Below w1.heap.size w1 w') => adr_cell h (hrl w' hq) 2 (by omega))
 have hE3 := Lib.hid (fun w' (hq : Below w1.heap.size w1 w') => adr_cell h (hrl w' hq) 3 (by omega))
 have hE6 := Lib.hid (fun w' (hq : Below w1.heap.size w1 w') => adr_v6 (hrl w' hq))
 rw [h6] at hE6
 obtain ⟨V, hV⟩ : ∃ V, V = adrV a := ⟨_, rfl⟩
 have hl := Lib.hid (show (Tryz.prog.info? 26).map (·.size) = some V.length by rw [hV, length_adrV h, size_adr])
 rw [← hV] at hw1 hchk hT ⊢
 rw [hc] at hchk
 clear hV hr hrl hD
 have hn0 := Lib.hid (fun w' => rnum10_any (a.b.getD 0 0).toNat (a.b.getD 0 0).toNat w' (Nat.le_refl _) (by have := (a.b.getD 0 0).toNat_lt; omega))
 have hl0 := numL_len 10 (by omega) 2 (a.b.getD 0 0).toNat (by have := (a.b.getD 0 0).toNat_lt; omega)
 generalize a.b.getD 0 0 = x0 at *
 generalize numL 10 x0.toNat = X0 at *
 have hz0 : (bstr X0).size = X0.length := size_bstr _
 have hv0 : IntKind.i64.wrap (x0.toNat : Int) = (x0.toNat : Int) := by rw [IntKind.wrap_i64]; have := x0.toNat_lt; omega
 have hn1 := Lib.hid (fun w' => rnum10_any (a.b.getD 1 0).toNat (a.b.getD 1 0).toNat w' (Nat.le_refl _) (by have := (a.b.getD 1 0).toNat_lt; omega))
 have hl1 := numL_len 10 (by omega) 2 (a.b.getD 1 0).toNat (by have := (a.b.getD 1 0).toNat_lt; omega)
 generalize a.b.getD 1 0 = x1 at *
 generalize numL 10 x1.toNat = X1 at *
 have hz1 : (bstr X1).size = X1.length := size_bstr _
 have hv1 : IntKind.i64.wrap (x1.toNat : Int) = (x1.toNat : Int) := by rw [IntKind.wrap_i64]; have := x1.toNat_lt; omega
 have hn2 := Lib.hid (fun w' => rnum10_any (a.b.getD 2 0).toNat (a.b.getD 2 0).toNat w' (Nat.le_refl _) (by have := (a.b.getD 2 0).toNat_lt; omega))
 have hl2 := numL_len 10 (by omega) 2 (a.b.getD 2 0).toNat (by have := (a.b.getD 2 0).toNat_lt; omega)
 generalize a.b.getD 2 0 = x2 at *
 generalize numL 10 x2.toNat = X2 at *
 have hz2 : (bstr X2).size = X2.length := size_bstr _
 have hv2 : IntKind.i64.wrap (x2.toNat : Int) = (x2.toNat : Int) := by rw [IntKind.wrap_i64]; have := x2.toNat_lt; omega
 have hn3 := Lib.hid (fun w' => rnum10_any (a.b.getD 3 0).toNat (a.b.getD 3 0).toNat w' (Nat.le_refl _) (by have := (a.b.getD 3 0).toNat_lt; omega))
 have hl3 := numL_len 10 (by omega) 2 (a.b.getD 3 0).toNat (by have := (a.b.getD 3 0).toNat_lt; omega)
 generalize a.b.getD 3 0 = x3 at *
 generalize numL 10 x3.toNat = X3 at *
 have hz3 : (bstr X3).size = X3.length := size_bstr _
 have hv3 : IntKind.i64.wrap (x3.toNat : Int) = (x3.toNat : Int) := by rw [IntKind.wrap_i64]; have := x3.toNat_lt; omega
 go_enter Tryz.func123, Tryz.ntmps123
 subst hw1
 go_wp2_with (first
  | (with_reducible refine wpList_load_mid rfl 26 (.tmp 1) rfl w.heap.size 0 rfl V _ hT Tryz.underlying26 rfl hl.out ?_)
  | (go_at_call 45; refine (hchk.out _).mono ?_; rintro e w2 ⟨rfl, hb2⟩; have h6c := hE6.out _ hb2))
 have hE0 : ∀ w', Below w2.heap.size w2 w' → w'.cell? ⟨w.heap.size, 1, none⟩ = some (.int .u8 (x0.toNat : Int)) := fun w' hq => hE0.out w' (hb2.trans (hq.mono hb2.size))
 have hE1 : ∀ w', Below w2.heap.size w2 w' → w'.cell? ⟨w.heap.size, 2, none⟩ = some (.int .u8 (x1.toNat : Int)) := fun w' hq => hE1.out w' (hb2.trans (hq.mono hb2.size))
 have hE2 : ∀ w', Below w2.heap.size w2 w' → w'.cell? ⟨w.heap.size, 3, none⟩ = some (.int .u8 (x2.toNat : Int)) := fun w' hq => hE2.out w' (hb2.trans (hq.mono hb2.size))
 have hE3 : ∀ w', Below w2.heap.size w2 w' → w'.cell? ⟨w.heap.size, 4, none⟩ = some (.int .u8 (x3.toNat : Int)) := fun w' hq => hE3.out w' (hb2.trans (hq.mono hb2.size))
 have hb2 := hb.trans (hb2.mono hb.size)
 clear hT hb
 refine wp_region_noPanic ?_
 refine wp_region_held_drew (S := fun w' => Below w2.heap.size w2 w') (by kernel_rfl) ((Below.refl _ _).drew) (fun hHeld => ?_)
 have hB := hHeld
 refine rtake 0 _ (some 14) _ rfl rfl (by kernel_rfl) (by kernel_rfl) (by kernel_rfl) (fun _ _ _ h => h) (by rfl) hHeld (by intro w hS; go_simp; try with_reducible rfl) ?_
 try (first | (rw [put_some]; dsimp only [List.set]) | rw [put_none])
 refine rtake 1 _ (some 15) _ rfl rfl (by kernel_rfl) (by kernel_rfl) (by kernel_rfl) (fun _ _ _ h => h) (by rfl) hHeld (by intro w hS; go_simp; try with_reducible rfl) ?_
 try (first | (rw [put_some]; dsimp only [List.set]) | rw [put_none])
 refine rtake 2 _ (some 16) _ rfl rfl (by kernel_rfl) (by kernel_rfl) (by kernel_rfl) (fun _ _ _ h => h) (by rfl) hHeld (by intro w hS; go_simp; try with_reducible rfl) ?_
 try (first | (rw [put_some]; dsimp only [List.set]) | rw [put_none])
 refine rtake 3 _ (some 17) _ rfl rfl (by kernel_rfl) (by kernel_rfl) (by kernel_rfl) (fun _ _ _ h => h) (by rfl) hHeld (by intro w hS; go_simp; try with_reducible rfl) ?_
 try (first | (rw [put_some]; dsimp only [List.set]) | rw [put_none])
 refine rtake 6 _ (some 20) _ rfl rfl (by kernel_rfl) (by kernel_rfl) (by kernel_rfl) (fun _ _ _ h => h) (by rfl) hHeld (by intro w hS; go_simp; try with_reducible rfl) ?_
 try (first | (rw [put_some]; dsimp only [List.set]) | rw [put_none])
 refine rtake 7 _ (some 21) _ rfl rfl (by kernel_rfl) (by kernel_rfl) (by kernel_rfl) (fun _ _ _ h => h) (by rfl) hHeld (by intro w hS; go_simp; try with_reducible rfl) ?_
 try (first | (rw [put_some]; dsimp only [List.set]) | rw [put_none])
 refine rtake 8 _ (some 22) _ rfl rfl (by kernel_rfl) (by kernel_rfl) (by kernel_rfl) (fun _ _ _ h => h) (by rfl) hHeld (by intro w hS; go_simp; try with_reducible rfl) ?_
 try (first | (rw [put_some]; dsimp only [List.set]) | rw [put_none])
 refine rtake 9 _ (some 23) _ rfl rfl (by kernel_rfl) (by kernel_rfl) (by kernel_rfl) (fun _ _ _ h => h) (by rfl) hHeld (by intro w hS; go_simp; try with_reducible rfl) ?_
 try (first | (rw [put_some]; dsimp only [List.set]) | rw [put_none])
 refine rtake 13 _ (some 27) _ rfl rfl (by kernel_rfl) (by kernel_rfl) (by kernel_rfl) (fun _ _ _ h => h) (by rfl) hHeld (by intro w hS; go_simp; try with_reducible rfl) ?_
 try (first | (rw [put_some]; dsimp only [List.set]) | rw [put_none])
 refine rtake 14 _ (some 28) _ rfl rfl (by kernel_rfl) (by kernel_rfl) (by kernel_rfl) (fun _ _ _ h => h) (by rfl) hHeld (by intro w hS; go_simp; try with_reducible rfl) ?_
 try (first | (rw [put_some]; dsimp only [List.set]) | rw [put_none])
 refine rtake 15 _ (some 29) _ rfl rfl (by kernel_rfl) (by kernel_rfl) (by kernel_rfl) (fun _ _ _ h => h) (by rfl) hHeld (by intro w hS; go_simp; try with_reducible rfl) ?_
 try (first | (rw [put_some]; dsimp only [List.set]) | rw [put_none])
 refine rtake 16 _ (some 30) _ rfl rfl (by kernel_rfl) (by kernel_rfl) (by kernel_rfl) (fun _ _ _ h => h) (by rfl) hHeld (by intro w hS; go_simp; try with_reducible rfl) ?_
 try (first | (rw [put_some]; dsimp only [List.set]) | rw [put_none])
 refine rtake 20 _ (some 34) _ rfl rfl (by kernel_rfl) (by kernel_rfl) (by kernel_rfl) (fun _ _ _ h => h) (by rfl) hHeld (by intro w hS; go_simp; try with_reducible rfl) ?_
 try (first | (rw [put_some]; dsimp only [List.set]) | rw [put_none])
 refine rtake 21 _ (some 35) _ rfl rfl (by kernel_rfl) (by kernel_rfl) (by kernel_rfl) (fun _ _ _ h => h) (by rfl) hHeld (by intro w hS; go_simp; try with_reducible rfl) ?_
 try (first | (rw [put_some]; dsimp only [List.set]) | rw [put_none])
 refine rtake 22 _ (some 36) _ rfl rfl (by kernel_rfl) (by kernel_rfl) (by kernel_rfl) (fun _ _ _ h => h) (by rfl) hHeld (by intro w hS; go_simp; try with_reducible rfl) ?_
 try (first | (rw [put_some]; dsimp only [List.set]) | rw [put_none])
 refine rtake 23 _ (some 37) _ rfl rfl (by kernel_rfl) (by kernel_rfl) (by kernel_rfl) (fun _ _ _ h => h) (by rfl) hHeld (by intro w hS; go_simp; try with_reducible rfl) ?_
 try (first | (rw [put_some]; dsimp only [List.set]) | rw [put_none])
 refine wpAnyH_ready (rs := [4]) (by kernel_rfl) (by simp) (AllReadyH.cons (o := _) rfl (fun K hK => ?_) AllReadyH.nil)
 go_simp
 refine (hn0.out _).mono ?_; rintro e ww24 ⟨rfl, hqw24⟩
 try go_wp2_with fail
 refine hK.out _ _ (hHeld.trans (hqw24.mono hHeld.size)) (fun hHeld' => ?_)
 clear hK K
 try (first | (rw [put_some]; dsimp only [List.set]) | rw [put_none])
 have hB := below_step hB hqw24
 have hB4 : Below ww24.heap.size ww24 ww24 := Below.refl _ _
 refine wpAnyH_narrow (S' := fun w' => Below ww24.heap.size ww24 w') (fun _ h => (hHeld.trans (hqw24.mono hHeld.size)).trans (h.mono (hHeld.trans (hqw24.mono hHeld.size)).size)) _ _ _ _ ?_
 clear hHeld
 have hHeld : Below ww24.heap.size ww24 ww24 := Below.refl _ _
 refine rtake 5 _ (some 19) _ rfl rfl (by kernel_rfl) (by kernel_rfl) (by kernel_rfl) (fun _ _ _ h => h) (by rfl) hHeld (by intro w hS; go_simp; rw [if_neg (by (try simp only [ByteArray.size_append, hz0, hz1, hz2, hz3]); (try simp only [show ByteArray.size { data := #[46] } = 1 from rfl]); omega)]) ?_
 try (first | (rw [put_some]; dsimp only [List.set]) | rw [put_none])
 refine wpAnyH_ready (rs := [10]) (by kernel_rfl) (by simp) (AllReadyH.cons (o := _) rfl (fun K hK => ?_) AllReadyH.nil)
 go_simp
 refine (hn1.out _).mono ?_; rintro e ww210 ⟨rfl, hqw210⟩
 try go_wp2_with fail
 refine hK.out _ _ (hHeld.trans (hqw210.mono hHeld.size)) (fun hHeld' => ?_)
 clear hK K
 try (first | (rw [put_some]; dsimp only [List.set]) | rw [put_none])
 have hB := below_step hB hqw210
 have hB4 := below_step hB4 hqw210
 have hB10 : Below ww210.heap.size ww210 ww210 := Below.refl _ _
 refine wpAnyH_narrow (S' := fun w' => Below ww210.heap.size ww210 w') (fun _ h => (hHeld.trans (hqw210.mono hHeld.size)).trans (h.mono (hHeld.trans (hqw210.mono hHeld.size)).size)) _ _ _ _ ?_
 clear hHeld
 have hHeld : Below ww210.heap.size ww210 ww210 := Below.refl _ _
 refine rtake 11 _ (some 25) _ rfl rfl (by kernel_rfl) (by kernel_rfl) (by kernel_rfl) (fun _ _ _ h => h) (by rfl) hHeld (by intro w hS; go_simp; rw [if_neg (by (try simp only [ByteArray.size_append, hz0, hz1, hz2, hz3]); (try simp only [show ByteArray.size { data := #[46] } = 1 from rfl]); omega)]) ?_
 try (first | (rw [put_some]; dsimp only [List.set]) | rw [put_none])
 refine rtake 12 _ (some 26) _ rfl rfl (by kernel_rfl) (by kernel_rfl) (by kernel_rfl) (fun _ _ _ h => h) (by rfl) hHeld (by intro w hS; go_simp; rw [if_neg (by (try simp only [ByteArray.size_append, hz0, hz1, hz2, hz3]); (try simp only [show ByteArray.size { data := #[46] } = 1 from rfl]); omega)]) ?_
 try (first | (rw [put_some]; dsimp only [List.set]) | rw [put_none])
 refine wpAnyH_ready (rs := [17]) (by kernel_rfl) (by simp) (AllReadyH.cons (o := _) rfl (fun K hK => ?_) AllReadyH.nil)
 go_simp
 refine (hn2.out _).mono ?_; rintro e ww217 ⟨rfl, hqw217⟩
 try go_wp2_with fail
 refine hK.out _ _ (hHeld.trans (hqw217.mono hHeld.size)) (fun hHeld' => ?_)
 clear hK K
 try (first | (rw [put_some]; dsimp only [List.set]) | rw [put_none])
 have hB := below_step hB hqw217
 have hB4 := below_step hB4 hqw217
 have hB10 := below_step hB10 hqw217
 have hB17 : Below ww217.heap.size ww217 ww217 := Below.refl _ _
 refine wpAnyH_narrow (S' := fun w' => Below ww217.heap.size ww217 w') (fun _ h => (hHeld.trans (hqw217.mono hHeld.size)).trans (h.mono (hHeld.trans (hqw217.mono hHeld.size)).size)) _ _ _ _ ?_
 clear hHeld
 have hHeld : Below ww217.heap.size ww217 ww217 := Below.refl _ _
 refine rtake 18 _ (some 32) _ rfl rfl (by kernel_rfl) (by kernel_rfl) (by kernel_rfl) (fun _ _ _ h => h) (by rfl) hHeld (by intro w hS; go_simp; rw [if_neg (by (try simp only [ByteArray.size_append, hz0, hz1, hz2, hz3]); (try simp only [show ByteArray.size { data := #[46] } = 1 from rfl]); omega)]) ?_
 try (first | (rw [put_some]; dsimp only [List.set]) | rw [put_none])
 refine rtake 19 _ (some 33) _ rfl rfl (by kernel_rfl) (by kernel_rfl) (by kernel_rfl) (fun _ _ _ h => h) (by rfl) hHeld (by intro w hS; go_simp; rw [if_neg (by (try simp only [ByteArray.size_append, hz0, hz1, hz2, hz3]); (try simp only [show ByteArray.size { data := #[46] } = 1 from rfl]); omega)]) ?_
 try (first | (rw [put_some]; dsimp only [List.set]) | rw [put_none])
 refine wpAnyH_ready (rs := [24]) (by kernel_rfl) (by simp) (AllReadyH.cons (o := _) rfl (fun K hK => ?_) AllReadyH.nil)
 go_simp
 refine (hn3.out _).mono ?_; rintro e ww224 ⟨rfl, hqw224⟩
 try go_wp2_with fail
 refine hK.out _ _ (hHeld.trans (hqw224.mono hHeld.size)) (fun hHeld' => ?_)
 clear hK K
 try (first | (rw [put_some]; dsimp only [List.set]) | rw [put_none])
 have hB := below_step hB hqw224
 have hB4 := below_step hB4 hqw224
 have hB10 := below_step hB10 hqw224
 have hB17 := below_step hB17 hqw224
 have hB24 : Below ww224.heap.size ww224 ww224 := Below.refl _ _
 refine wpAnyH_narrow (S' := fun w' => Below ww224.heap.size ww224 w') (fun _ h => (hHeld.trans (hqw224.mono hHeld.size)).trans (h.mono (hHeld.trans (hqw224.mono hHeld.size)).size)) _ _ _ _ ?_
 clear hHeld
 have hHeld : Below ww224.heap.size ww224 ww224 := Below.refl _ _
 refine rtake 25 _ (some 39) _ rfl rfl (by kernel_rfl) (by kernel_rfl) (by kernel_rfl) (fun _ _ _ h => h) (by rfl) hHeld (by intro w hS; go_simp; rw [if_neg (by (try simp only [ByteArray.size_append, hz0, hz1, hz2, hz3]); (try simp only [show ByteArray.size { data := #[46] } = 1 from rfl]); omega)]) ?_
 try (first | (rw [put_some]; dsimp only [List.set]) | rw [put_none])
 refine rtake 26 _ (some 2) _ rfl rfl (by kernel_rfl) (by kernel_rfl) (by kernel_rfl) (fun _ _ _ h => h) (by rfl) hHeld (by intro w hS; go_simp; try with_reducible rfl) ?_
 try (first | (rw [put_some]; dsimp only [List.set]) | rw [put_none])
 refine wpAnyH_done (by kernel_rfl) ?_ _
 refine NoPanic.normal ?_
 have hBe := hb2.trans (hB.mono hb2.size)
 clear hHeld
 go_wp2
 go_ret
 exact ⟨by rw [HT.out]; simp only [← bstr_cat12]; rfl, hBe⟩
end Go.Proofs.YtjieebmcbpdeiaaGreatDoor
