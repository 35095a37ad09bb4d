/- Texts of this claim, one behind the other. -/
import Derived.Test.YtlocgfekgbdlmaaDoorMa
import Derived.Test.YtlocgfekgbdlmaaDoorMb
import Derived.Test.YtlocgfekgbdlmaaDoorMc
import Derived.Test.YtlocgfekgbdlmaaDoorMd
import Derived.Test.YtlocgfekgbdlmaaDoorMe
/- LAYER 7: package seal's Seal and Open. -/
namespace Go.Proofs.YtlocgfekgbdlmaaDoor
open Go Go.RowKit

set_option maxRecDepth 20000 in
set_option maxHeartbeats 2000000 in
theorem dseal_any (key nonce : List UInt8) (hk : key.length = 32) (hn : nonce.length = 32) (p : List UInt8) (hs : p.length ≤ 100000) (w : World) (hT : Tabs w) :
    Calls Tryd.prog 8 #[.agg (byts key).toArray, .agg (byts nonce).toArray, .string (bstr p)] w fun e w' => e = .returned (.string (bstr (sealL key nonce p))) ∧ Below w.heap.size w w' := by
  obtain ⟨K, hK⟩ : ∃ K, K = byts key := ⟨_, rfl⟩
  have hKl : K.length = 32 := by rw [hK, length_byts]; exact hk
  have hszK := Lib.hid (show (Tryd.prog.info? 23).map (·.size) = some K.toArray.size by rw [size_tag, List.size_toArray, hKl])
  obtain ⟨M, hM⟩ : ∃ M, M = byts nonce := ⟨_, rfl⟩
  have HM := Lib.hid hM
  have hMl : M.length = 32 := by rw [hM, length_byts]; exact hn
  have hszM := Lib.hid (show (Tryd.prog.info? 23).map (·.size) = some M.toArray.size by rw [size_tag, List.size_toArray, hMl])
  obtain ⟨C, hC⟩ : ∃ C, C = turnL key nonce p := ⟨_, rfl⟩
  have hCl : C.length = p.length := by rw [hC]; exact length_turnL _ _ _
  have htu := Lib.hid (show ∀ w1, Tabs w1 → Calls Tryd.prog 14 #[.agg K.toArray, .agg M.toArray, .string (bstr p)] w1 fun e w' => e = .returned (.string (bstr C)) ∧ Below w1.heap.size w1 w' by
    rw [hK, hM, hC]; exact fun w1 hT => dturned_any key nonce hk hn p (by omega) w1 hT)
  obtain ⟨O, hO⟩ : ∃ O, O = tagOver key nonce C := ⟨_, rfl⟩
  obtain ⟨V, hV⟩ : ∃ V, V = byts O := ⟨_, rfl⟩
  have hOl : O.length = 32 := by rw [hO]; exact length_tagOver _ _ _
  have hVl : V.length = 32 := by rw [hV, length_byts]; exact hOl
  have hone := Lib.hid (all_one (show ∀ v ∈ V, v.oneCell' = true by rw [hV]; exact byts_one _))
  have hszl := Lib.hid (show (Tryd.prog.info? 23).map (·.size) = some V.toArray.size by rw [size_tag, List.size_toArray, hVl])
  have h32 := Lib.hid (show 32 = V.toArray.size by rw [List.size_toArray, hVl])
  have hmk := Lib.hid (show ∀ w1, Tabs w1 → Calls Tryd.prog 12 #[.agg K.toArray, .agg M.toArray, .string (bstr C)] w1 fun e w' => e = .returned (.agg V.toArray) ∧ Below w1.heap.size w1 w' by
    rw [hK, hM, hV, hO]; exact fun w1 hT => dmark_any key nonce hk hn C (by omega) w1 hT)
  have HA := Lib.hid (show bstr nonce ++ bstr C ++ bstr O = bstr (sealL key nonce p) by
    rw [bstr_append, bstr_append, hO, hC]; rfl)
  have HV := Lib.hid hV
  have HN := Lib.hid hn
  have HOl := Lib.hid hOl
  have hc1 := Lib.hid (show ¬ 9223372036854775807 < (bstr nonce).size + (bstr C).size by rw [size_bstr, size_bstr, hn, hCl]; omega)
  have hc2 := Lib.hid (show ¬ 9223372036854775807 < (bstr nonce).size + (bstr C).size + (bstr O).size by rw [size_bstr, size_bstr, size_bstr, hn, hCl, hOl]; omega)
  obtain ⟨r0, r1, hb0, _⟩ := two_rows (w := w) (A := K) (B := M) (tA := 23) (tB := 23) rfl
  have R0 := Lib.hid (show ((w.alloc (.cells K.toArray 23)).alloc (.cells M.toArray 23)).heap[w.heap.size]? = some (.cells K.toArray 23 (0, 0)) from r0)
  have R1 := Lib.hid (show ((w.alloc (.cells K.toArray 23)).alloc (.cells M.toArray 23)).heap[w.heap.size + 1]? = some (.cells M.toArray 23 (0, 0)) from r1)
  have hT0 := hT.later hb0 (Nat.le_refl _)
  rw [← hK, ← hM]
  clear hK hKl hM hMl hk hn hC hCl hV hVl hO hOl
  go_enter Tryd.func8, Tryd.ntmps8
  go_wp2_with (first
    | (with_reducible refine wpList_load_row rfl 23 (.tmp 3) rfl w.heap.size rfl 23 K.toArray (0, 0) (.array 32 5) R0.out Tryd.underlying23 rfl hszK.out ?_)
    | (with_reducible refine wpList_load_row rfl 23 (.tmp 4) rfl (w.heap.size + 1) rfl 23 M.toArray (0, 0) (.array 32 5) R1.out Tryd.underlying23 rfl hszM.out ?_)
    | (go_at_call 14; refine (htu.out _ hT0).mono ?_; rintro e w1 ⟨rfl, hb1⟩; have r0 := r0.later hb1 r0.lt; have r1 := r1.later hb1 r1.lt; have hbw1 := hb0.trans (hb1.mono hb0.size); have hT1 := hT.later hbw1 (Nat.le_refl _); have R0 := Lib.hid (show w1.heap[w.heap.size]? = some (.cells K.toArray 23 (0, 0)) from r0); have R1 := Lib.hid (show w1.heap[w.heap.size + 1]? = some (.cells M.toArray 23 (0, 0)) from r1); clear hb1 hb0)
    | (go_at_call 12; refine (hmk.out _ hT1).mono ?_; rintro e w2 ⟨rfl, hb2⟩; have r1 := r1.later hb2 r1.lt; have hbw2 := hbw1.trans (hb2.mono hbw1.size); clear hb2 hbw1)
    | (with_reducible refine wpList_store_row rfl 23 (.tmp 8) (.tmp 16) rfl w2.heap.size V.toArray rfl rfl 23 _ (heap_alloc_new w2 _) hszl.out (Eq.trans (by kernel_rfl) h32.out) hone.out ?_; refine Hid.out ?_))
  refine Lib.hid ?_
  generalize hw3 : World.setRow _ _ _ = w3
  obtain ⟨r3, hb3⟩ := row_new_set (xs := V) hw3
  have r1 := r1.later hb3 r1.lt
  have hbw3 := hbw2.trans (hb3.mono hbw2.size)
  clear hw3 hb3 hbw2
  generalize w2.heap.size = g at *
  have hslN : Sl w3 (some ⟨w.heap.size + 1, 0, none⟩) 32 (byts nonce) := ⟨Rd.row (ys := []) (by rw [List.append_nil, ← HM.out]; exact r1), by rw [length_byts, HN.out]; exact Nat.le_refl _, fun h => by cases h⟩
  have hslO : Sl w3 (some ⟨g, 0, none⟩) 32 (byts O) := ⟨Rd.row (ys := []) (by rw [List.append_nil, ← HV.out]; exact r3), by rw [length_byts, HOl.out]; exact Nat.le_refl _, fun h => by cases h⟩
  have hcN := conv_later hslN 32 HN.out.symm
  have hcO := conv_later hslO 32 HOl.out.symm
  clear hslN hslO r3 r1 r0
  have hc1 := hc1.out
  have hc2 := hc2.out
  go_wp2_with fail
  refine wp_region_noPanic ?_
  refine wp_region_held_drew (S := fun w' => Below w3.heap.size w3 w') (by kernel_rfl) ((Below.refl _ _).drew) (fun hHeld => ?_)
  refine rtake 0 _ (some 17) _ rfl rfl (by kernel_rfl) (by kernel_rfl) (by kernel_rfl) (fun _ _ _ h => h) (by rfl) hHeld (by intro w hS; go_simp; try with_reducible rfl) ?_
  try (first | (rw [put_some]; dsimp only [List.set]) | rw [put_none])
  refine rtake 1 _ (some 18) _ rfl rfl (by kernel_rfl) (by kernel_rfl) (by kernel_rfl) (fun _ _ _ h => h) (by rfl) hHeld (by intro w hS; go_simp; try with_reducible rfl) ?_
  try (first | (rw [put_some]; dsimp only [List.set]) | rw [put_none])
  refine rtake 2 _ (some 19) _ rfl rfl (by kernel_rfl) (by kernel_rfl) (by kernel_rfl) (fun _ _ _ h => h) (by rfl) hHeld (by intro w hS; go_simp; try with_reducible rfl) ?_
  try (first | (rw [put_some]; dsimp only [List.set]) | rw [put_none])
  refine rtake 3 _ (some 20) _ rfl rfl (by kernel_rfl) (by kernel_rfl) (by kernel_rfl) (fun _ _ _ h => h) (by rfl) hHeld (by intro w hS; go_simp; try with_reducible rfl) ?_
  try (first | (rw [put_some]; dsimp only [List.set]) | rw [put_none])
  refine rtake 4 _ (some 21) _ rfl rfl (by kernel_rfl) (by kernel_rfl) (by kernel_rfl) (fun _ _ _ h => h) (by rfl) hHeld (by intro w hS; go_simp; try with_reducible rfl) ?_
  try (first | (rw [put_some]; dsimp only [List.set]) | rw [put_none])
  refine rtake 5 _ (some 22) _ rfl rfl (by kernel_rfl) (by kernel_rfl) (by kernel_rfl) (fun _ _ _ h => h) (by rfl) hHeld (by intro w hS; go_simp; try with_reducible rfl) ?_
  try (first | (rw [put_some]; dsimp only [List.set]) | rw [put_none])
  refine rtake 6 _ (some 23) _ rfl rfl (by kernel_rfl) (by kernel_rfl) (by kernel_rfl) (fun _ _ _ h => h) (by rfl) hHeld (by intro w hS; go_simp; try with_reducible rfl) ?_
  try (first | (rw [put_some]; dsimp only [List.set]) | rw [put_none])
  refine rtake 7 _ (some 6) _ rfl rfl (by kernel_rfl) (by kernel_rfl) (by kernel_rfl) (fun _ _ _ h => h) (by rfl) hHeld (by intro w hS; go_simp; try with_reducible rfl) ?_
  try (first | (rw [put_some]; dsimp only [List.set]) | rw [put_none])
  refine wpAnyH_done (by kernel_rfl) ?_ _
  refine NoPanic.normal ?_
  clear hcN hcO hHeld
  go_wp2
  go_ret
  exact ⟨by show Ending.returned (.string (bstr nonce ++ bstr C ++ bstr O)) = _; rw [HA.out], hbw3.drew⟩
set_option maxRecDepth 20000 in
set_option maxHeartbeats 2000000 in
theorem dopen_any (key : List UInt8) (hk : key.length = 32) (s : List UInt8) (hs : s.length ≤ 100000) (w : World) (hT : Tabs w) :
    Calls Tryd.prog 6 #[.agg (byts key).toArray, .string (bstr s)] w fun e w' => e = .returned (openV (openL key s)) ∧ Below w.heap.size w w' := by
  have hz := size_bstr s
  have hb0 := (Below.refl w.heap.size w).alloc (Nat.le_refl _) (.cells (byts key).toArray 23)
  by_cases h64 : s.length < 64
  · have hL := Lib.hid (show openL key s = ([], false) by unfold openL; rw [if_pos h64])
    have h64' : (bstr s).size < 64 := by rw [hz]; exact h64
    clear h64 hz hs
    generalize bstr s = U at *
    generalize (byts key).toArray = KK at *
    go_enter Tryd.func6, Tryd.ntmps6
    go_wp2
    go_ret2
    exact ⟨by rw [hL.out]; rfl, hb0⟩
  obtain ⟨K, hK⟩ : ∃ K, K = byts key := ⟨_, rfl⟩
  have hKl : K.length = 32 := by rw [hK, length_byts]; exact hk
  have hszK := Lib.hid (show (Tryd.prog.info? 23).map (·.size) = some K.toArray.size by rw [size_tag, List.size_toArray, hKl])
  obtain ⟨N, hN⟩ : ∃ N, N = s.take 32 := ⟨_, rfl⟩
  have hNl : N.length = 32 := by rw [hN, List.length_take]; omega
  obtain ⟨M, hM⟩ : ∃ M, M = byts N := ⟨_, rfl⟩
  have hMl : M.length = 32 := by rw [hM, length_byts]; exact hNl
  have hszM := Lib.hid (show (Tryd.prog.info? 23).map (·.size) = some M.toArray.size by rw [size_tag, List.size_toArray, hMl])
  have hszML := Lib.hid (show (Tryd.prog.info? 23).map (·.size) = some M.length by rw [size_tag, hMl])
  have h32 := Lib.hid (show 32 = M.toArray.size by rw [List.size_toArray, hMl])
  have hone := Lib.hid (all_one (show ∀ v ∈ M, v.oneCell' = true by rw [hM]; exact byts_one _))
  obtain ⟨C, hC⟩ : ∃ C, C = midL s := ⟨_, rfl⟩
  have hCl : C.length = s.length - 64 := by rw [hC]; exact length_midL s (by omega)
  obtain ⟨P, hP⟩ : ∃ P, P = turnL key N C := ⟨_, rfl⟩
  obtain ⟨O, hO⟩ : ∃ O, O = tagOver key N C := ⟨_, rfl⟩
  have hOl : O.length = 32 := by rw [hO]; exact length_tagOver _ _ _
  obtain ⟨V, hV⟩ : ∃ V, V = byts O := ⟨_, rfl⟩
  have hVl : V.length = 32 := by rw [hV, length_byts]; exact hOl
  have honeV := Lib.hid (all_one (show ∀ v ∈ V, v.oneCell' = true by rw [hV]; exact byts_one _))
  have hszV := Lib.hid (show (Tryd.prog.info? 23).map (·.size) = some V.toArray.size by rw [size_tag, List.size_toArray, hVl])
  have h32V := Lib.hid (show 32 = V.toArray.size by rw [List.size_toArray, hVl])
  obtain ⟨D, hD⟩ : ∃ D, D = s.drop (s.length - 32) := ⟨_, rfl⟩
  have hDl : D.length = 32 := by rw [hD, List.length_drop]; omega
  have htu := Lib.hid (show ∀ w1, Tabs w1 → Calls Tryd.prog 14 #[.agg K.toArray, .agg M.toArray, .string (bstr C)] w1 fun e w' => e = .returned (.string (bstr P)) ∧ Below w1.heap.size w1 w' by
    rw [hK, hM, hP]; exact fun w1 hT => dturned_any key N hk hNl C (by omega) w1 hT)
  have hmk := Lib.hid (show ∀ w1, Tabs w1 → Calls Tryd.prog 12 #[.agg K.toArray, .agg M.toArray, .string (bstr C)] w1 fun e w' => e = .returned (.agg V.toArray) ∧ Below w1.heap.size w1 w' by
    rw [hK, hM, hV, hO]; exact fun w1 hT => dmark_any key N hk hNl C (by omega) w1 hT)
  have hL := Lib.hid (show openL key s = if O = D then (P, true) else ([], false) by
    have h := open_iff key s (by omega)
    rw [← hN, ← hC, ← hP, ← hO, ← hD] at h
    unfold openL
    rw [if_neg h64, ← hN, ← hC, ← hP]
    by_cases he : O = D
    · rw [if_pos he, if_pos (h.2 he)]
    · rw [if_neg he, if_neg (fun x => he (h.1 x))])
  have hx1 : (bstr s).extract 0 32 = bstr N := by rw [extract_bstr, hN]; rfl
  have hx2 : (bstr s).extract 32 ((bstr s).size - 32) = bstr C := by rw [extract_bstr, hz, hC]; unfold midL; rw [show s.length - 32 - 32 = s.length - 64 by omega]
  have hx3 : (bstr s).extract ((bstr s).size - 32) (bstr s).size = bstr D := by rw [extract_bstr, hz, hD, List.take_of_length_le (by rw [List.length_drop]; exact Nat.le_refl _)]
  have h64' : 64 ≤ (bstr s).size := by rw [hz]; omega
  obtain ⟨m, hm⟩ : ∃ m, m = (bstr s).size - 32 := ⟨_, rfl⟩
  rw [← hm] at hx2 hx3
  have hm0 : IntKind.i64.wrap (((bstr s).size : Int) - 32) = (m : Int) := by rw [hm, IntKind.wrap_i64]; omega
  have hm1 : (m : Int) ≤ ((bstr s).size : Int) := by omega
  have hm2 : (32 : Int) ≤ (m : Int) := by omega
  clear hm
  have hNl := Lib.hid hNl
  have HM := Lib.hid hM
  have HV := Lib.hid hV
  have HOl := Lib.hid hOl
  have HDl := Lib.hid hDl
  have r0 := Row.new w 23 K
  rw [← hK] at hb0 ⊢
  clear hK hKl hMl hM hN hCl hC hP hk h64 hs hz hO hOl hV hVl hD hDl
  generalize hU : bstr s = U at *
  clear hU
  go_enter Tryd.func6, Tryd.ntmps6
  go_wp2_with (first
    | (with_reducible refine wpList_load_mid rfl 23 (.tmp 19) rfl b1 o1 rfl M _ HR.out Tryd.underlying23 rfl hszML.out ?_)
    | (with_reducible refine wpList_store_row rfl 23 (.tmp 7) (.tmp 20) rfl w1.heap.size M.toArray rfl rfl 23 _ (heap_alloc_new w1 _) hszM.out (Eq.trans (by kernel_rfl) h32.out) hone.out ?_; refine Hid.out ?_)
    | (refine wpList_conv_string rfl (.tmp 17) rfl N rfl ?_; intro A1 c1 w1 hsl1 hb1; rw [hNl.out]; obtain ⟨b1, o1, rfl, _, _⟩ := hsl1.rd.get (i := 0) (by rw [length_byts, hNl.out]; decide); have HR := Lib.hid (show w1.rangeAt b1 o1 M by rw [HM.out]; exact hsl1.range); have hconv : ∀ w, (Instr.arrayAt 23 (.slice (some ⟨b1, o1, none⟩) 32 c1)).run Tryd.prog w = .ok (.pointer (some ⟨b1, o1, none⟩)) w := run_arrayAt 23 _ 32 Tryd.underlying23 _ 32 c1 (Nat.le_refl _); have r0 := r0.later hb1 r0.lt; have hbw1 := hb0.trans (hb1.mono hb0.size); clear hb0 hb1 hsl1))
  refine Lib.hid ?_
  generalize hw2 : World.setRow _ _ _ = w2
  obtain ⟨r7, hb2⟩ := row_new_set (xs := M) hw2
  have r0 := r0.later hb2 r0.lt
  have hbw2 := hbw1.trans (hb2.mono hbw1.size)
  clear hw2 hb2 hbw1 HR hconv
  generalize w1.heap.size = g7 at *
  have R0 := Lib.hid (show w2.heap[w.heap.size]? = some (.cells K.toArray 23 (0, 0)) from r0)
  have R7 := Lib.hid (show w2.heap[g7]? = some (.cells M.toArray 23 (0, 0)) from r7)
  have hT2 := hT.later hbw2 (Nat.le_refl _)
  go_wp2_with (first
    | (with_reducible refine wpList_load_row rfl 23 (.tmp 2) rfl w.heap.size rfl 23 K.toArray (0, 0) (.array 32 5) R0.out Tryd.underlying23 rfl hszK.out ?_)
    | (with_reducible refine wpList_load_row rfl 23 (.tmp 7) rfl g7 rfl 23 M.toArray (0, 0) (.array 32 5) R7.out Tryd.underlying23 rfl hszM.out ?_)
    | (go_at_call 12; refine (hmk.out _ hT2).mono ?_; rintro e w3 ⟨rfl, hb3⟩; have r0 := r0.later hb3 r0.lt; have r7 := r7.later hb3 r7.lt; have hbw3 := hbw2.trans (hb3.mono hbw2.size); clear hb3 hbw2)
    | (with_reducible refine wpList_store_row rfl 23 (.tmp 9) (.tmp 27) rfl w3.heap.size V.toArray rfl rfl 23 _ (heap_alloc_new w3 _) hszV.out (Eq.trans (by kernel_rfl) h32V.out) honeV.out ?_; refine Hid.out ?_))
  refine Lib.hid ?_
  generalize hw4 : World.setRow _ _ _ = w4
  obtain ⟨r9, hb4⟩ := row_new_set (xs := V) hw4
  have r0 := r0.later hb4 r0.lt
  have r7 := r7.later hb4 r7.lt
  have hbw4 := hbw3.trans (hb4.mono hbw3.size)
  clear hw4 hb4 hbw3 R0 R7
  generalize w3.heap.size = g9 at *
  have hslO : Sl w4 (some ⟨g9, 0, none⟩) 32 (byts O) := ⟨Rd.row (ys := []) (by rw [List.append_nil, ← HV.out]; exact r9), by rw [length_byts, HOl.out]; exact Nat.le_refl _, fun h => by cases h⟩
  clear r9
  go_wp2_with fail
  by_cases hEq : O = D
  · have hEQ := Lib.hid (show ∀ w1 A5 c5, Sl w1 (some ⟨g9, 0, none⟩) 32 (byts O) → Sl w1 A5 c5 (byts D) → Calls Tryd.prog 13 #[.slice (some ⟨g9, 0, none⟩) 32 32, .slice A5 D.length c5] w1 fun e w' => e = .returned (.bool true) ∧ w1 = w' from fun w1 A5 c5 h1 h2 => by
      have := equal_any (some ⟨g9, 0, none⟩) 32 32 O A5 D.length c5 D w1 h1 HOl.out.symm h2 rfl (by rw [HOl.out]; decide) (by rw [HDl.out]; decide)
      rwa [decide_eq_true hEq] at this)
    have hL := Lib.hid (hL.out.trans (if_pos hEq))
    refine wp_region_noPanic ?_
    refine wp_region_held_drew (S := fun w' => Below w4.heap.size w4 w') (by kernel_rfl) ((Below.refl _ _).drew) (fun hHeld => ?_)
    refine rtake 0 _ (some 28) _ rfl rfl (by kernel_rfl) (by kernel_rfl) (by kernel_rfl) (fun _ _ _ h => h) (by rfl) hHeld (by intro w hS; go_simp; try with_reducible rfl) ?_
    try (first | (rw [put_some]; dsimp only [List.set]) | rw [put_none])
    refine rtake 1 _ (some 29) _ rfl rfl (by kernel_rfl) (by kernel_rfl) (by kernel_rfl) (fun _ _ _ h => h) (by rfl) hHeld (by intro w hS; go_simp; try with_reducible rfl) ?_
    try (first | (rw [put_some]; dsimp only [List.set]) | rw [put_none])
    refine rtake 2 _ (some 30) _ rfl rfl (by kernel_rfl) (by kernel_rfl) (by kernel_rfl) (fun _ _ _ h => h) (by rfl) hHeld (by intro w hS; go_simp; try with_reducible rfl) ?_
    try (first | (rw [put_some]; dsimp only [List.set]) | rw [put_none])
    refine rtake 3 _ (some 31) _ rfl rfl (by kernel_rfl) (by kernel_rfl) (by kernel_rfl) (fun _ _ _ h => h) (by rfl) hHeld (by intro w hS; go_simp; try with_reducible rfl) ?_
    try (first | (rw [put_some]; dsimp only [List.set]) | rw [put_none])
    refine wpAnyH_ready (rs := [4]) (by kernel_rfl) (by simp) (AllReadyH.cons (o := _) rfl (fun K hK => ?_) AllReadyH.nil)
    refine step_conv_string (some 32) rfl (by rfl) (.tmp 31) rfl D rfl ?_; intro A5 c5 w5 hsl5 hb5; have hq5 := hHeld.trans (hb5.mono hHeld.size)
    refine hK.out _ _ (hq5) (fun hHeld => ?_)
    clear hK K
    try (first | (rw [put_some]; dsimp only [List.set]) | rw [put_none])
    refine wpAnyH_ready (rs := [5]) (by kernel_rfl) (by simp) (AllReadyH.cons (o := _) rfl (fun K hK => ?_) AllReadyH.nil)
    go_simp
    refine (hEQ.out _ _ _ (hslO.later (Nat.le_refl _) hq5) hsl5).mono ?_; rintro e w6 ⟨rfl, rfl⟩
    try go_wp2_with fail
    refine hK.out _ _ hHeld (fun _ => ?_)
    clear hK K
    try (first | (rw [put_some]; dsimp only [List.set]) | rw [put_none])
    refine rtake 6 _ (some 34) _ rfl rfl (by kernel_rfl) (by kernel_rfl) (by kernel_rfl) (fun _ _ _ h => h) (by rfl) hHeld (by intro w hS; go_simp; try with_reducible rfl) ?_
    try (first | (rw [put_some]; dsimp only [List.set]) | rw [put_none])
    refine wpAnyH_done (by kernel_rfl) ?_ _
    refine NoPanic.normal ?_
    have hb5 := hbw4.trans (hq5.mono hbw4.size)
    have R0 := Lib.hid (show w5.heap[w.heap.size]? = some (.cells K.toArray 23 (0, 0)) from r0.later hq5 r0.lt)
    have R7 := Lib.hid (show w5.heap[g7]? = some (.cells M.toArray 23 (0, 0)) from r7.later hq5 r7.lt)
    have hT5 := hT.later hb5 (Nat.le_refl _)
    clear r0 r7 hslO hq5 hsl5 hHeld hbw4
    go_wp2_with (first
      | (with_reducible refine wpList_load_row rfl 23 (.tmp 2) rfl w.heap.size rfl 23 K.toArray (0, 0) (.array 32 5) R0.out Tryd.underlying23 rfl hszK.out ?_)
      | (with_reducible refine wpList_load_row rfl 23 (.tmp 7) rfl g7 rfl 23 M.toArray (0, 0) (.array 32 5) R7.out Tryd.underlying23 rfl hszM.out ?_)
      | (go_at_call 14; refine (htu.out _ hT5).mono ?_; rintro e w9 ⟨rfl, hb9⟩; have hb59 := hb5.trans (hb9.mono hb5.size)))
    go_ret2
    exact ⟨by rw [hL.out]; rfl, hb59⟩
  · have hEQ := Lib.hid (show ∀ w1 A5 c5, Sl w1 (some ⟨g9, 0, none⟩) 32 (byts O) → Sl w1 A5 c5 (byts D) → Calls Tryd.prog 13 #[.slice (some ⟨g9, 0, none⟩) 32 32, .slice A5 D.length c5] w1 fun e w' => e = .returned (.bool false) ∧ w1 = w' from fun w1 A5 c5 h1 h2 => by
      have := equal_any (some ⟨g9, 0, none⟩) 32 32 O A5 D.length c5 D w1 h1 HOl.out.symm h2 rfl (by rw [HOl.out]; decide) (by rw [HDl.out]; decide)
      rwa [decide_eq_false hEq] at this)
    have hL := Lib.hid (hL.out.trans (if_neg hEq))
    refine wp_region_noPanic ?_
    refine wp_region_held_drew (S := fun w' => Below w4.heap.size w4 w') (by kernel_rfl) ((Below.refl _ _).drew) (fun hHeld => ?_)
    refine rtake 0 _ (some 28) _ rfl rfl (by kernel_rfl) (by kernel_rfl) (by kernel_rfl) (fun _ _ _ h => h) (by rfl) hHeld (by intro w hS; go_simp; try with_reducible rfl) ?_
    try (first | (rw [put_some]; dsimp only [List.set]) | rw [put_none])
    refine rtake 1 _ (some 29) _ rfl rfl (by kernel_rfl) (by kernel_rfl) (by kernel_rfl) (fun _ _ _ h => h) (by rfl) hHeld (by intro w hS; go_simp; try with_reducible rfl) ?_
    try (first | (rw [put_some]; dsimp only [List.set]) | rw [put_none])
    refine rtake 2 _ (some 30) _ rfl rfl (by kernel_rfl) (by kernel_rfl) (by kernel_rfl) (fun _ _ _ h => h) (by rfl) hHeld (by intro w hS; go_simp; try with_reducible rfl) ?_
    try (first | (rw [put_some]; dsimp only [List.set]) | rw [put_none])
    refine rtake 3 _ (some 31) _ rfl rfl (by kernel_rfl) (by kernel_rfl) (by kernel_rfl) (fun _ _ _ h => h) (by rfl) hHeld (by intro w hS; go_simp; try with_reducible rfl) ?_
    try (first | (rw [put_some]; dsimp only [List.set]) | rw [put_none])
    refine wpAnyH_ready (rs := [4]) (by kernel_rfl) (by simp) (AllReadyH.cons (o := _) rfl (fun K hK => ?_) AllReadyH.nil)
    refine step_conv_string (some 32) rfl (by rfl) (.tmp 31) rfl D rfl ?_; intro A5 c5 w5 hsl5 hb5; have hq5 := hHeld.trans (hb5.mono hHeld.size)
    refine hK.out _ _ (hq5) (fun hHeld => ?_)
    clear hK K
    try (first | (rw [put_some]; dsimp only [List.set]) | rw [put_none])
    refine wpAnyH_ready (rs := [5]) (by kernel_rfl) (by simp) (AllReadyH.cons (o := _) rfl (fun K hK => ?_) AllReadyH.nil)
    go_simp
    refine (hEQ.out _ _ _ (hslO.later (Nat.le_refl _) hq5) hsl5).mono ?_; rintro e w6 ⟨rfl, rfl⟩
    try go_wp2_with fail
    refine hK.out _ _ hHeld (fun _ => ?_)
    clear hK K
    try (first | (rw [put_some]; dsimp only [List.set]) | rw [put_none])
    refine rtake 6 _ (some 34) _ rfl rfl (by kernel_rfl) (by kernel_rfl) (by kernel_rfl) (fun _ _ _ h => h) (by rfl) hHeld (by intro w hS; go_simp; try with_reducible rfl) ?_
    try (first | (rw [put_some]; dsimp only [List.set]) | rw [put_none])
    refine wpAnyH_done (by kernel_rfl) ?_ _
    refine NoPanic.normal ?_
    have hb5 := hbw4.trans (hq5.mono hbw4.size)
    clear r0 r7 hslO hq5 hsl5 hHeld hbw4
    go_wp2
    go_ret2
    exact ⟨by rw [hL.out]; rfl, hb5⟩
end Go.Proofs.YtlocgfekgbdlmaaDoor

/- LAYER 7: sealAlive. -/
namespace Go.Proofs.YtlocgfekgbdlmaaDoor
open Go Go.RowKit

def aliveK : List UInt8 := 1 :: List.replicate 31 0
def aliveM : List UInt8 := 2 :: List.replicate 31 0
def abcL : List UInt8 := [97, 98, 99]
theorem one_tag : (byts aliveK).toArray = (#[.int .u8 1, .int .u8 0, .int .u8 0, .int .u8 0, .int .u8 0, .int .u8 0, .int .u8 0, .int .u8 0, .int .u8 0, .int .u8 0, .int .u8 0, .int .u8 0, .int .u8 0, .int .u8 0, .int .u8 0, .int .u8 0, .int .u8 0, .int .u8 0, .int .u8 0, .int .u8 0, .int .u8 0, .int .u8 0, .int .u8 0, .int .u8 0, .int .u8 0, .int .u8 0, .int .u8 0, .int .u8 0, .int .u8 0, .int .u8 0, .int .u8 0, .int .u8 0] : Array Value) := by kernel_rfl
theorem two_tag : (byts aliveM).toArray = (#[.int .u8 2, .int .u8 0, .int .u8 0, .int .u8 0, .int .u8 0, .int .u8 0, .int .u8 0, .int .u8 0, .int .u8 0, .int .u8 0, .int .u8 0, .int .u8 0, .int .u8 0, .int .u8 0, .int .u8 0, .int .u8 0, .int .u8 0, .int .u8 0, .int .u8 0, .int .u8 0, .int .u8 0, .int .u8 0, .int .u8 0, .int .u8 0, .int .u8 0, .int .u8 0, .int .u8 0, .int .u8 0, .int .u8 0, .int .u8 0, .int .u8 0, .int .u8 0] : Array Value) := by kernel_rfl
set_option maxRecDepth 20000 in
set_option maxHeartbeats 1000000 in
theorem salive_any (w : World) (hT : Tabs w) :
    Calls Tryd.prog 5 #[] w fun e w' => e = .returned (.bool true) ∧ Below w.heap.size w w' := by
  obtain ⟨X, hX⟩ : ∃ X, X = bstr (sealL aliveK aliveM abcL) := ⟨_, rfl⟩
  have hXz : X.size = 67 := by rw [hX, size_bstr, length_sealL _ _ _ rfl]; rfl
  have hse := Lib.hid (show ∀ w1, Tabs w1 → Calls Tryd.prog 8 #[.agg #[.int .u8 1, .int .u8 0, .int .u8 0, .int .u8 0, .int .u8 0, .int .u8 0, .int .u8 0, .int .u8 0, .int .u8 0, .int .u8 0, .int .u8 0, .int .u8 0, .int .u8 0, .int .u8 0, .int .u8 0, .int .u8 0, .int .u8 0, .int .u8 0, .int .u8 0, .int .u8 0, .int .u8 0, .int .u8 0, .int .u8 0, .int .u8 0, .int .u8 0, .int .u8 0, .int .u8 0, .int .u8 0, .int .u8 0, .int .u8 0, .int .u8 0, .int .u8 0], .agg #[.int .u8 2, .int .u8 0, .int .u8 0, .int .u8 0, .int .u8 0, .int .u8 0, .int .u8 0, .int .u8 0, .int .u8 0, .int .u8 0, .int .u8 0, .int .u8 0, .int .u8 0, .int .u8 0, .int .u8 0, .int .u8 0, .int .u8 0, .int .u8 0, .int .u8 0, .int .u8 0, .int .u8 0, .int .u8 0, .int .u8 0, .int .u8 0, .int .u8 0, .int .u8 0, .int .u8 0, .int .u8 0, .int .u8 0, .int .u8 0, .int .u8 0, .int .u8 0], .string { data := #[97, 98, 99] }] w1 fun e w' => e = .returned (.string X) ∧ Below w1.heap.size w1 w' by
    rw [← one_tag, ← two_tag, hX]; exact fun w1 h => dseal_any aliveK aliveM rfl rfl abcL (by decide) w1 h)
  have hop := Lib.hid (show ∀ w1, Tabs w1 → Calls Tryd.prog 6 #[.agg #[.int .u8 1, .int .u8 0, .int .u8 0, .int .u8 0, .int .u8 0, .int .u8 0, .int .u8 0, .int .u8 0, .int .u8 0, .int .u8 0, .int .u8 0, .int .u8 0, .int .u8 0, .int .u8 0, .int .u8 0, .int .u8 0, .int .u8 0, .int .u8 0, .int .u8 0, .int .u8 0, .int .u8 0, .int .u8 0, .int .u8 0, .int .u8 0, .int .u8 0, .int .u8 0, .int .u8 0, .int .u8 0, .int .u8 0, .int .u8 0, .int .u8 0, .int .u8 0], .string X] w1 fun e w' => e = .returned (.tuple #[.string { data := #[97, 98, 99] }, .bool true]) ∧ Below w1.heap.size w1 w' by
    rw [← one_tag, hX]
    intro w1 h
    have := dopen_any aliveK rfl (sealL aliveK aliveM abcL) (by rw [length_sealL _ _ _ rfl]; decide) w1 h
    rw [openL_sealL _ _ _ rfl] at this
    exact this)
  have hq : ((ByteArray.mk #[97, 98, 99]).toList == (ByteArray.mk #[97, 98, 99]).toList) = true := by simp
  clear hX
  go_enter Tryd.func5, Tryd.ntmps5
  go_wp2_with (first
    | (go_at_call 8; refine (hse.out _ hT).mono ?_; rintro e w1 ⟨rfl, hb1⟩; have hT1 := hT.later hb1 (Nat.le_refl _))
    | (go_at_call 6; refine (hop.out _ hT1).mono ?_; rintro e w2 ⟨rfl, hb2⟩; have hb3 := hb1.trans (hb2.mono hb1.size)))
  go_ret
  exact ⟨rfl, hb3⟩
end Go.Proofs.YtlocgfekgbdlmaaDoor

/- LAYER 7, SealTells: the walk of the law. -/
namespace Go.Proofs.YtlocgfekgbdlmaaDoor
open Go Go.RowKit

set_option maxRecDepth 100000 in
set_option maxHeartbeats 4000000 in
theorem stells_walk (key nonce : List UInt8) (hk : key.length = 32) (hn : nonce.length = 32) (p : List UInt8) (hp : p.length ≤ 9223372036854775807) (w : World) (hT : Tabs w) :
    Calls Tryd.prog 3 #[.agg (byts key).toArray, .agg (byts nonce).toArray, .string (bstr p)] w fun e w' => e = .returned (.bool true) ∧ Below w.heap.size w w' := by
  obtain ⟨K, hK⟩ : ∃ K, K = byts key := ⟨_, rfl⟩
  obtain ⟨M, hM⟩ : ∃ M, M = byts nonce := ⟨_, rfl⟩
  have hz := size_bstr p
  have hzm : (bstr p).size ≤ 9223372036854775807 := by rw [hz]; exact hp
  obtain ⟨r0, r1, hb0, _⟩ := two_rows (w := w) (A := K) (B := M) (tA := 23) (tB := 23) rfl
  have hT0 := hT.later hb0 (Nat.le_refl _)
  rw [← hK, ← hM]
  by_cases h200 : 200 < p.length
  · have h200' : 200 < (bstr p).size := by rw [hz]; exact h200
    generalize hU : bstr p = U at *
    clear h200 hp hz hU hK hM
    go_enter Tryd.func3, Tryd.ntmps3
    go_wp2_with (go_at_call 5; refine (salive_any _ hT0).mono ?_; rintro e w1 ⟨rfl, hb1⟩; have hbw := hb0.trans (hb1.mono hb0.size); clear hb1)
    go_ret
    exact ⟨rfl, hbw⟩
  have hKl : K.length = 32 := by rw [hK, length_byts]; exact hk
  have hszK := Lib.hid (show (Tryd.prog.info? 23).map (·.size) = some K.toArray.size by rw [size_tag, List.size_toArray, hKl])
  have hszL := Lib.hid (show (Tryd.prog.info? 23).map (·.size) = some K.length by rw [size_tag, hKl])
  have hMl : M.length = 32 := by rw [hM, length_byts]; exact hn
  have hszML := Lib.hid (show (Tryd.prog.info? 23).map (·.size) = some M.length by rw [size_tag, hMl])
  have hle : p.length ≤ 200 := by omega
  obtain ⟨X, hX⟩ : ∃ X, X = streamL key nonce p.length := ⟨_, rfl⟩
  have hXl := Lib.hid (show p.length = X.length by rw [hX, length_streamL])
  have hse := Lib.hid (show ∀ w1, Tabs w1 → Calls Tryd.prog 8 #[.agg K.toArray, .agg M.toArray, .string (bstr p)] w1 fun e w' => e = .returned (.string (bstr (sealL key nonce p))) ∧ Below w1.heap.size w1 w' by
    rw [hK, hM]; exact fun w1 h => dseal_any key nonce hk hn p (by omega) w1 h)
  have hre := Lib.hid (show ∀ w1, Calls Tryd.prog 9 #[.agg K.toArray, .agg M.toArray, .string (bstr p)] w1 fun e w' => e = .returned (.string (bstr (sealL key nonce p))) ∧ Below w1.heap.size w1 w' by
    rw [hK, hM]; exact fun w1 => rseal_any key nonce hk hn p (by omega) w1)
  have hst := Lib.hid (show ∀ w1, Tabs w1 → Calls Tryd.prog 10 #[.agg K.toArray, .agg M.toArray, .int .i64 p.length] w1 fun e w' => ∃ A c, e = .returned (.slice A p.length c) ∧ Sl w' A c (byts X) ∧ Below w1.heap.size w1 w' by
    rw [hK, hM, hX]; exact fun w1 h => dstream_any key nonce hk hn p.length (by omega) (by omega) w1 h)
  have hrt := Lib.hid (show ∀ w1, Calls Tryd.prog 11 #[.agg K.toArray, .agg M.toArray, .int .i64 p.length] w1 fun e w' => ∃ A c, e = .returned (.slice A p.length c) ∧ Sl w' A c (byts X) ∧ Below w1.heap.size w1 w' by
    rw [hK, hM, hX]; exact fun w1 => rstream_any key nonce hk hn p.length (by omega) w1)
  have hs0 := Lib.hid (show ∀ w1, Tabs w1 → Calls Tryd.prog 10 #[.agg K.toArray, .agg M.toArray, .int .i64 (-1)] w1 fun e w' => ∃ A c, e = .returned (.slice A 0 c) ∧ Below w1.heap.size w1 w' by
    rw [hK, hM]; exact fun w1 h => (dstream_any key nonce hk hn (-1) (by omega) (by omega) w1 h).mono fun e w' ⟨A, c, h1, _, h2⟩ => ⟨A, c, h1, h2⟩)
  obtain ⟨P, hP⟩ : ∃ P, P = (openL key p).1 := ⟨_, rfl⟩
  obtain ⟨b, hb⟩ : ∃ b, b = (openL key p).2 := ⟨_, rfl⟩
  have hop := Lib.hid (show ∀ w1, Tabs w1 → Calls Tryd.prog 6 #[.agg K.toArray, .string (bstr p)] w1 fun e w' => e = .returned (.tuple #[.string (bstr P), .bool b]) ∧ Below w1.heap.size w1 w' by
    rw [hK, hP, hb]; exact fun w1 h => dopen_any key hk p (by omega) w1 h)
  have hro := Lib.hid (show ∀ w1, Calls Tryd.prog 7 #[.agg K.toArray, .string (bstr p)] w1 fun e w' => e = .returned (.tuple #[.string (bstr P), .bool b]) ∧ Below w1.heap.size w1 w' by
    rw [hK, hP, hb]; exact fun w1 => ropen_any key hk p (by omega) w1)
  have h200' : (bstr p).size ≤ 200 := by rw [hz]; exact hle
  generalize sealL key nonce p = SS at *
  generalize hU : bstr p = U at *
  have hz' : (U.size : Int) = (p.length : Int) := by rw [hz]
  generalize p.length = n at *
  clear hle hU hK hM hKl hMl hX hP hb h200 hp hzm hk hn hz hT
  go_enter Tryd.func3, Tryd.ntmps3
  go_wp2_with (first
    | (go_at_call 5; refine (salive_any _ hT0).mono ?_; rintro e w3 ⟨rfl, hb3⟩; have hT3 := hT0.later hb3 (Nat.le_refl _); have r0 := r0.later hb3 r0.lt; have r1 := r1.later hb3 r1.lt; have hbw3 := hb0.trans (hb3.mono hb0.size); have R3 := Lib.hid (show w3.heap[w.heap.size]? = some (.cells K.toArray 23 (0, 0)) from r0); clear hb3 hb0)
    | (with_reducible refine wpList_load_row rfl 23 (.tmp 3) rfl w.heap.size rfl 23 K.toArray (0, 0) (.array 32 5) R3.out Tryd.underlying23 rfl hszK.out ?_)
    | (with_reducible refine wpList_load_row rfl 23 (.tmp 3) rfl w.heap.size rfl 23 K.toArray (0, 0) (.array 32 5) R4.out Tryd.underlying23 rfl hszK.out ?_)
    | (go_at_call 6; refine (hop.out _ hT3).mono ?_; rintro e w4 ⟨rfl, hb4⟩; have hT4 := hT3.later hb4 (Nat.le_refl _); have r0 := r0.later hb4 r0.lt; have r1 := r1.later hb4 r1.lt; have hbw4 := hbw3.trans (hb4.mono hbw3.size); have R4 := Lib.hid (show w4.heap[w.heap.size]? = some (.cells K.toArray 23 (0, 0)) from r0); clear hb4 hbw3)
    | (go_at_call 7; refine (hro.out _).mono ?_; rintro e w5 ⟨rfl, hb5⟩; have hT5 := hT4.later hb5 (Nat.le_refl _); have r0 := r0.later hb5 r0.lt; have r1 := r1.later hb5 r1.lt; have hbw5 := hbw4.trans (hb5.mono hbw4.size); clear hb5 hbw4))
  refine wp_region_noPanic ?_
  refine wp_region_held_drew (S := fun w' => Below w5.heap.size w5 w') (by kernel_rfl) ((Below.refl _ _).drew) (fun hHeld => ?_)
  have hAll := hHeld
  refine rtake 0 _ (some 28) _ rfl rfl (by kernel_rfl) (by kernel_rfl) (by kernel_rfl) (fun _ _ _ h => h) (by rfl) hHeld (by intro w hS; exact run_load_op 23 (.tmp 3) rfl _ 0 rfl K _ (row_range (r0.later hS r0.lt)) Tryd.underlying23 rfl hszL.out) ?_
  try (rw [put_some]; dsimp only [List.set])
  refine rtake 1 _ (some 29) _ rfl rfl (by kernel_rfl) (by kernel_rfl) (by kernel_rfl) (fun _ _ _ h => h) (by rfl) hHeld (by intro w hS; exact run_load_op 23 (.tmp 4) rfl _ 0 rfl M _ (row_range (r1.later hS r1.lt)) Tryd.underlying23 rfl hszML.out) ?_
  try (rw [put_some]; dsimp only [List.set])
  refine rtake 2 _ (some 30) _ rfl rfl (by kernel_rfl) (by kernel_rfl) (by kernel_rfl) (fun _ _ _ h => h) (by rfl) hHeld (by intro w hS; go_simp; try with_reducible rfl) ?_
  try (rw [put_some]; dsimp only [List.set])
  refine rtake 4 _ (some 32) _ rfl rfl (by kernel_rfl) (by kernel_rfl) (by kernel_rfl) (fun _ _ _ h => h) (by rfl) hHeld (by intro w hS; exact run_load_op 23 (.tmp 3) rfl _ 0 rfl K _ (row_range (r0.later hS r0.lt)) Tryd.underlying23 rfl hszL.out) ?_
  try (rw [put_some]; dsimp only [List.set])
  refine rtake 5 _ (some 33) _ rfl rfl (by kernel_rfl) (by kernel_rfl) (by kernel_rfl) (fun _ _ _ h => h) (by rfl) hHeld (by intro w hS; exact run_load_op 23 (.tmp 4) rfl _ 0 rfl M _ (row_range (r1.later hS r1.lt)) Tryd.underlying23 rfl hszML.out) ?_
  try (rw [put_some]; dsimp only [List.set])
  refine rtake 6 _ (some 34) _ rfl rfl (by kernel_rfl) (by kernel_rfl) (by kernel_rfl) (fun _ _ _ h => h) (by rfl) hHeld (by intro w hS; go_simp; try with_reducible rfl) ?_
  try (rw [put_some]; dsimp only [List.set])
  refine wpAnyH_ready (rs := [3]) (by kernel_rfl) (by simp) (AllReadyH.cons (o := _) rfl (fun K hK => ?_) AllReadyH.nil)
  go_simp
  refine (hse.out _ (hT5.later hAll (Nat.le_refl _))).mono ?_; rintro e w6 ⟨rfl, hb6⟩
  try go_wp2_with fail
  refine hK.out _ _ (below_step hHeld hb6) (fun _ => ?_)
  clear hK K
  try (rw [put_some]; dsimp only [List.set])
  have hAll := below_step hAll hb6
  refine wpAnyH_narrow (S' := fun w' => Below w6.heap.size w6 w') (fun _ h => below_step (below_step hHeld hb6) h) _ _ _ _ ?_
  clear hHeld
  have hHeld : Below w6.heap.size w6 w6 := Below.refl _ _
  refine wpAnyH_ready (rs := [7]) (by kernel_rfl) (by simp) (AllReadyH.cons (o := _) rfl (fun K hK => ?_) AllReadyH.nil)
  go_simp
  refine (hre.out _).mono ?_; rintro e w7 ⟨rfl, hb7⟩
  try go_wp2_with fail
  refine hK.out _ _ (below_step hHeld hb7) (fun _ => ?_)
  clear hK K
  try (rw [put_some]; dsimp only [List.set])
  have hAll := below_step hAll hb7
  refine wpAnyH_narrow (S' := fun w' => Below w7.heap.size w7 w') (fun _ h => below_step (below_step hHeld hb7) h) _ _ _ _ ?_
  clear hHeld
  have hHeld : Below w7.heap.size w7 w7 := Below.refl _ _
  refine rtake 8 _ (some 36) _ rfl rfl (by kernel_rfl) (by kernel_rfl) (by kernel_rfl) (fun _ _ _ h => h) (by rfl) hHeld (by intro w hS; go_simp; try with_reducible rfl) ?_
  try (rw [put_some]; dsimp only [List.set])
  refine rtake 9 _ (some 37) _ rfl rfl (by kernel_rfl) (by kernel_rfl) (by kernel_rfl) (fun _ _ _ h => h) (by rfl) hHeld (by intro w hS; go_simp; try with_reducible rfl) ?_
  try (rw [put_some]; dsimp only [List.set])
  refine rtake 10 _ (some 38) _ rfl rfl (by kernel_rfl) (by kernel_rfl) (by kernel_rfl) (fun _ _ _ h => h) (by rfl) hHeld (by intro w hS; exact run_load_op 23 (.tmp 3) rfl _ 0 rfl K _ (row_range ((r0.later hAll r0.lt).later hS (r0.later hAll r0.lt).lt)) Tryd.underlying23 rfl hszL.out) ?_
  try (rw [put_some]; dsimp only [List.set])
  refine rtake 11 _ (some 39) _ rfl rfl (by kernel_rfl) (by kernel_rfl) (by kernel_rfl) (fun _ _ _ h => h) (by rfl) hHeld (by intro w hS; exact run_load_op 23 (.tmp 4) rfl _ 0 rfl M _ (row_range ((r1.later hAll r1.lt).later hS (r1.later hAll r1.lt).lt)) Tryd.underlying23 rfl hszML.out) ?_
  try (rw [put_some]; dsimp only [List.set])
  refine rtake 12 _ (some 40) _ rfl rfl (by kernel_rfl) (by kernel_rfl) (by kernel_rfl) (fun _ _ _ h => h) (by rfl) hHeld (by intro w hS; go_simp; try with_reducible rfl) ?_
  try (rw [put_some]; dsimp only [List.set])
  refine rtake 13 _ (some 41) _ rfl rfl (by kernel_rfl) (by kernel_rfl) (by kernel_rfl) (fun _ _ _ h => h) (by rfl) hHeld (by intro w hS; go_simp; try with_reducible rfl) ?_
  try (rw [put_some]; dsimp only [List.set])
  refine rtake 16 _ (some 44) _ rfl rfl (by kernel_rfl) (by kernel_rfl) (by kernel_rfl) (fun _ _ _ h => h) (by rfl) hHeld (by intro w hS; exact run_load_op 23 (.tmp 3) rfl _ 0 rfl K _ (row_range ((r0.later hAll r0.lt).later hS (r0.later hAll r0.lt).lt)) Tryd.underlying23 rfl hszL.out) ?_
  try (rw [put_some]; dsimp only [List.set])
  refine rtake 17 _ (some 45) _ rfl rfl (by kernel_rfl) (by kernel_rfl) (by kernel_rfl) (fun _ _ _ h => h) (by rfl) hHeld (by intro w hS; exact run_load_op 23 (.tmp 4) rfl _ 0 rfl M _ (row_range ((r1.later hAll r1.lt).later hS (r1.later hAll r1.lt).lt)) Tryd.underlying23 rfl hszML.out) ?_
  try (rw [put_some]; dsimp only [List.set])
  refine rtake 18 _ (some 46) _ rfl rfl (by kernel_rfl) (by kernel_rfl) (by kernel_rfl) (fun _ _ _ h => h) (by rfl) hHeld (by intro w hS; go_simp; try with_reducible rfl) ?_
  try (rw [put_some]; dsimp only [List.set])
  refine rtake 19 _ (some 47) _ rfl rfl (by kernel_rfl) (by kernel_rfl) (by kernel_rfl) (fun _ _ _ h => h) (by rfl) hHeld (by intro w hS; go_simp; try with_reducible rfl) ?_
  try (rw [put_some]; dsimp only [List.set])
  refine wpAnyH_ready (rs := [14]) (by kernel_rfl) (by simp) (AllReadyH.cons (o := _) rfl (fun K hK => ?_) AllReadyH.nil)
  go_simp
  refine (hst.out _ (hT5.later hAll (Nat.le_refl _))).mono ?_; rintro e w8 ⟨A8, c8, rfl, hsl8, hb8⟩; have hcv8 := conv_later hsl8 _ hXl.out
  try go_wp2_with fail
  refine hK.out _ _ (below_step hHeld hb8) (fun _ => ?_)
  clear hK K
  try (rw [put_some]; dsimp only [List.set])
  have hAll := below_step hAll hb8
  refine wpAnyH_narrow (S' := fun w' => Below w8.heap.size w8 w') (fun _ h => below_step (below_step hHeld hb8) h) _ _ _ _ ?_
  clear hHeld
  have hHeld : Below w8.heap.size w8 w8 := Below.refl _ _
  refine rtake 15 _ (some 43) _ rfl rfl (by kernel_rfl) (by kernel_rfl) (by kernel_rfl) (fun _ _ _ h => h) (by rfl) hHeld (by intro w hS; go_simp; try with_reducible rfl) ?_
  try (rw [put_some]; dsimp only [List.set])
  refine wpAnyH_ready (rs := [20]) (by kernel_rfl) (by simp) (AllReadyH.cons (o := _) rfl (fun K hK => ?_) AllReadyH.nil)
  go_simp
  refine (hrt.out _).mono ?_; rintro e w9 ⟨A9, c9, rfl, hsl9, hb9⟩; have hcv9 := conv_later hsl9 _ hXl.out
  try go_wp2_with fail
  refine hK.out _ _ (below_step hHeld hb9) (fun _ => ?_)
  clear hK K
  try (rw [put_some]; dsimp only [List.set])
  have hAll := below_step hAll hb9
  refine wpAnyH_narrow (S' := fun w' => Below w9.heap.size w9 w') (fun _ h => below_step (below_step hHeld hb9) h) _ _ _ _ ?_
  clear hHeld
  have hHeld : Below w9.heap.size w9 w9 := Below.refl _ _
  refine rtake 21 _ (some 49) _ rfl rfl (by kernel_rfl) (by kernel_rfl) (by kernel_rfl) (fun _ _ _ h => h) (by rfl) hHeld (by intro w hS; go_simp; try with_reducible rfl) ?_
  try (rw [put_some]; dsimp only [List.set])
  refine rtake 22 _ (some 50) _ rfl rfl (by kernel_rfl) (by kernel_rfl) (by kernel_rfl) (fun _ _ _ h => h) (by rfl) hHeld (by intro w hS; go_simp; try with_reducible rfl) ?_
  try (rw [put_some]; dsimp only [List.set])
  refine rtake 23 _ (some 51) _ rfl rfl (by kernel_rfl) (by kernel_rfl) (by kernel_rfl) (fun _ _ _ h => h) (by rfl) hHeld (by intro w hS; go_simp; try with_reducible rfl) ?_
  try (rw [put_some]; dsimp only [List.set])
  refine rtake 24 _ (some 52) _ rfl rfl (by kernel_rfl) (by kernel_rfl) (by kernel_rfl) (fun _ _ _ h => h) (by rfl) hHeld (by intro w hS; go_simp; try with_reducible rfl) ?_
  try (rw [put_some]; dsimp only [List.set])
  refine rtake 25 _ (some 53) _ rfl rfl (by kernel_rfl) (by kernel_rfl) (by kernel_rfl) (fun _ _ _ h => h) (by rfl) hHeld (by intro w hS; exact run_load_op 23 (.tmp 3) rfl _ 0 rfl K _ (row_range ((r0.later hAll r0.lt).later hS (r0.later hAll r0.lt).lt)) Tryd.underlying23 rfl hszL.out) ?_
  try (rw [put_some]; dsimp only [List.set])
  refine rtake 26 _ (some 54) _ rfl rfl (by kernel_rfl) (by kernel_rfl) (by kernel_rfl) (fun _ _ _ h => h) (by rfl) hHeld (by intro w hS; exact run_load_op 23 (.tmp 4) rfl _ 0 rfl M _ (row_range ((r1.later hAll r1.lt).later hS (r1.later hAll r1.lt).lt)) Tryd.underlying23 rfl hszML.out) ?_
  try (rw [put_some]; dsimp only [List.set])
  refine wpAnyH_ready (rs := [27]) (by kernel_rfl) (by simp) (AllReadyH.cons (o := _) rfl (fun K hK => ?_) AllReadyH.nil)
  go_simp
  refine (hs0.out _ (hT5.later hAll (Nat.le_refl _))).mono ?_; rintro e w10 ⟨A10, c10, rfl, hb10⟩
  try go_wp2_with fail
  refine hK.out _ _ (below_step hHeld hb10) (fun _ => ?_)
  clear hK K
  try (rw [put_some]; dsimp only [List.set])
  have hAll := below_step hAll hb10
  refine wpAnyH_narrow (S' := fun w' => Below w10.heap.size w10 w') (fun _ h => below_step (below_step hHeld hb10) h) _ _ _ _ ?_
  clear hHeld
  have hHeld : Below w10.heap.size w10 w10 := Below.refl _ _
  refine rtake 28 _ (some 56) _ rfl rfl (by kernel_rfl) (by kernel_rfl) (by kernel_rfl) (fun _ _ _ h => h) (by rfl) hHeld (by intro w hS; go_simp; try with_reducible rfl) ?_
  try (rw [put_some]; dsimp only [List.set])
  refine rtake 29 _ (some 57) _ rfl rfl (by kernel_rfl) (by kernel_rfl) (by kernel_rfl) (fun _ _ _ h => h) (by rfl) hHeld (by intro w hS; go_simp; try with_reducible rfl) ?_
  try (rw [put_some]; dsimp only [List.set])
  refine rtake 30 _ (some 58) _ rfl rfl (by kernel_rfl) (by kernel_rfl) (by kernel_rfl) (fun _ _ _ h => h) (by rfl) hHeld (by intro w hS; go_simp; try with_reducible rfl) ?_
  try (rw [put_some]; dsimp only [List.set])
  refine rtake 31 _ (some 59) _ rfl rfl (by kernel_rfl) (by kernel_rfl) (by kernel_rfl) (fun _ _ _ h => h) (by rfl) hHeld (by intro w hS; go_simp; try with_reducible rfl) ?_
  try (rw [put_some]; dsimp only [List.set])
  refine rtake 32 _ (some 60) _ rfl rfl (by kernel_rfl) (by kernel_rfl) (by kernel_rfl) (fun _ _ _ h => h) (by rfl) hHeld (by intro w hS; go_simp; try with_reducible rfl) ?_
  try (rw [put_some]; dsimp only [List.set])
  refine rtake 33 _ (some 61) _ rfl rfl (by kernel_rfl) (by kernel_rfl) (by kernel_rfl) (fun _ _ _ h => h) (by rfl) hHeld (by intro w hS; go_simp; try with_reducible rfl) ?_
  try (rw [put_some]; dsimp only [List.set])
  refine rtake 34 _ (some 62) _ rfl rfl (by kernel_rfl) (by kernel_rfl) (by kernel_rfl) (fun _ _ _ h => h) (by rfl) hHeld (by intro w hS; go_simp; try with_reducible rfl) ?_
  try (rw [put_some]; dsimp only [List.set])
  refine rtake 35 _ (some 63) _ rfl rfl (by kernel_rfl) (by kernel_rfl) (by kernel_rfl) (fun _ _ _ h => h) (by rfl) hHeld (by intro w hS; go_simp; try with_reducible rfl) ?_
  try (rw [put_some]; dsimp only [List.set])
  refine rtake 36 _ (some 64) _ rfl rfl (by kernel_rfl) (by kernel_rfl) (by kernel_rfl) (fun _ _ _ h => h) (by rfl) hHeld (by intro w hS; go_simp; try with_reducible rfl) ?_
  try (rw [put_some]; dsimp only [List.set])
  refine rtake 37 _ (some 65) _ rfl rfl (by kernel_rfl) (by kernel_rfl) (by kernel_rfl) (fun _ _ _ h => h) (by rfl) hHeld (by intro w hS; go_simp; try with_reducible rfl) ?_
  try (rw [put_some]; dsimp only [List.set])
  refine rtake 38 _ (some 66) _ rfl rfl (by kernel_rfl) (by kernel_rfl) (by kernel_rfl) (fun _ _ _ h => h) (by rfl) hHeld (by intro w hS; go_simp; try with_reducible rfl) ?_
  try (rw [put_some]; dsimp only [List.set])
  refine rtake 39 _ (some 67) _ rfl rfl (by kernel_rfl) (by kernel_rfl) (by kernel_rfl) (fun _ _ _ h => h) (by rfl) hHeld (by intro w hS; go_simp; try with_reducible rfl) ?_
  try (rw [put_some]; dsimp only [List.set])
  refine rtake 40 _ (some 68) _ rfl rfl (by kernel_rfl) (by kernel_rfl) (by kernel_rfl) (fun _ _ _ h => h) (by rfl) hHeld (by intro w hS; go_simp; try with_reducible rfl) ?_
  try (rw [put_some]; dsimp only [List.set])
  refine rtake 41 _ (some 69) _ rfl rfl (by kernel_rfl) (by kernel_rfl) (by kernel_rfl) (fun _ _ _ h => h) (by rfl) hHeld (by intro w hS; go_simp; try with_reducible rfl) ?_
  try (rw [put_some]; dsimp only [List.set])
  refine rtake 42 _ (some 70) _ rfl rfl (by kernel_rfl) (by kernel_rfl) (by kernel_rfl) (fun _ _ _ h => h) (by rfl) hHeld (by intro w hS; go_simp; try with_reducible rfl) ?_
  try (rw [put_some]; dsimp only [List.set])
  refine rtake 43 _ (some 6) _ rfl rfl (by kernel_rfl) (by kernel_rfl) (by kernel_rfl) (fun _ _ _ h => h) (by rfl) hHeld (by intro w hS; go_simp; try with_reducible rfl) ?_
  try (rw [put_some]; dsimp only [List.set])
  refine wpAnyH_done (by kernel_rfl) ?_ _
  refine NoPanic.normal ?_
  clear hcv8 hcv9
  go_wp2
  go_ret
  exact ⟨rfl, hbw5.trans (hAll.mono hbw5.size)⟩
end Go.Proofs.YtlocgfekgbdlmaaDoor
