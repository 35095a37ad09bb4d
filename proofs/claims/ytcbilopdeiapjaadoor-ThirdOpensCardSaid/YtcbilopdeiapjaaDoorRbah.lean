/- Texts of this claim, one behind the other. -/
import Derived.Test.YtcbilopdeiapjaaDoorRbag
import Derived.Test.YtcbilopdeiapjaaDoorRbab
import Derived.Deep.DeepCutAuto
import Derived.Laws.MakeOwn
import Derived.Lib.AppendStr
/- LAYER 7: the document's Seal. -/
namespace Go.Proofs.YtcbilopdeiapjaaDoor
set_option maxRecDepth 100000
open Go Go.RowKit

theorem bstr_append (a b : List UInt8) : bstr a ++ bstr b = bstr (a ++ b) := by
  unfold bstr
  apply ByteArray.ext
  rw [ByteArray.data_append]
  simp
set_option maxRecDepth 100000 in
set_option maxHeartbeats 2000000 in
theorem rseal_any (key nonce : List UInt8) (hk : key.length = 32) (hn : nonce.length = 32) (p : List UInt8) (hs : p.length ≤ 500000000) (w : World) :
    Calls Tryd.prog 30 #[.agg (byts key).toArray, .agg (byts nonce).toArray, .string (bstr p)] w fun e w' => e = .returned (.string (bstr (sealL key nonce p))) ∧ Below w.heap.size w w' := by
  obtain ⟨K, hK⟩ : ∃ K, K = byts key := ⟨_, rfl⟩
  have hKl : K.length = 32 := by rw [hK, length_byts]; exact hk
  have hszK := Lib.hid (show (Tryd.prog.info? 25).map (·.size) = some K.toArray.size by rw [size_tag, List.size_toArray, hKl])
  have hszL := Lib.hid (show (Tryd.prog.info? 25).map (·.size) = some K.length by rw [size_tag, hKl])
  obtain ⟨M, hM⟩ : ∃ M, M = byts nonce := ⟨_, rfl⟩
  have HM := Lib.hid hM
  have hMl : M.length = 32 := by rw [hM, length_byts]; exact hn
  have hszM := Lib.hid (show (Tryd.prog.info? 25).map (·.size) = some M.toArray.size by rw [size_tag, List.size_toArray, hMl])
  obtain ⟨C, hC⟩ : ∃ C, C = turnL key nonce p := ⟨_, rfl⟩
  have hCl : C.length = p.length := by rw [hC]; exact length_turnL _ _ _
  have htu := Lib.hid (show ∀ w1, Calls Tryd.prog 41 #[.agg K.toArray, .agg M.toArray, .string (bstr p)] w1 fun e w' => e = .returned (.string (bstr C)) ∧ Below w1.heap.size w1 w' by
    rw [hK, hM, hC]; exact fun w1 => rturn7_any key nonce hk hn p (by omega) w1)
  obtain ⟨O, hO⟩ : ∃ O, O = tagOver key nonce C := ⟨_, rfl⟩
  obtain ⟨V, hV⟩ : ∃ V, V = byts O := ⟨_, rfl⟩
  have hOl : O.length = 32 := by rw [hO]; exact length_tagOver _ _ _
  have hVl : V.length = 32 := by rw [hV, length_byts]; exact hOl
  have hone := Lib.hid (show ∀ v ∈ V, v.oneCell' = true by rw [hV]; exact byts_one _)
  have hszl := Lib.hid (show (Tryd.prog.info? 25).map (·.size) = some V.length by rw [size_tag, hVl])
  have hfit := Lib.hid (show 0 + V.length ≤ (List.replicate 32 (Value.int .u8 0)).length by rw [hVl, List.length_replicate]; decide)
  have HVr := Lib.hid (show splice (List.replicate 32 (Value.int .u8 0)) 0 V = V by
    unfold splice
    rw [List.take_zero, List.nil_append, Nat.zero_add, hVl, List.drop_of_length_le (by rw [List.length_replicate]; exact Nat.le_refl _), List.append_nil])
  have hkey := Lib.hid (show ∀ w1 B d, Sl w1 B d (strsV [nonce, C]) → Calls Tryd.prog 27 #[.agg K.toArray, .string (bstr sealU), .slice B 2 d] w1 fun e w' => e = .returned (.agg V.toArray) ∧ Below w1.heap.size w1 w' by
    rw [hK, hV, hO]
    exact fun w1 B d h => rkey_any key hk sealU B 2 d [nonce, C] w1 h rfl (by show (4 + 1) + ((nonce.length + 1) + ((C.length + 1) + 0)) ≤ _; rw [hCl, hn]; omega))
  have HA := Lib.hid (show bstr nonce ++ bstr C ++ bstr O = bstr (sealL key nonce p) by
    rw [bstr_append, bstr_append, hO, hC]; rfl)
  have HV := Lib.hid hV
  have HN := Lib.hid hn
  have HOl := Lib.hid hOl
  have hc1 := Lib.hid (show ¬ 9223372036854775807 < (bstr nonce).size + (bstr C).size by rw [size_bstr, size_bstr, hn, hCl]; omega)
  have hc2 := Lib.hid (show ¬ 9223372036854775807 < (bstr nonce).size + (bstr C).size + (bstr O).size by rw [size_bstr, size_bstr, size_bstr, hn, hCl, hOl]; omega)
  obtain ⟨r0, r1, hb0, _⟩ := two_rows (w := w) (A := K) (B := M) (tA := 25) (tB := 25) rfl
  have R0 := Lib.hid (show ((w.alloc (.cells K.toArray 25)).alloc (.cells M.toArray 25)).heap[w.heap.size]? = some (.cells K.toArray 25 (0, 0)) from r0)
  have R1 := Lib.hid (show ((w.alloc (.cells K.toArray 25)).alloc (.cells M.toArray 25)).heap[w.heap.size + 1]? = some (.cells M.toArray 25 (0, 0)) from r1)
  rw [← hK, ← hM]
  clear hK hKl hM hMl hk hn hC hCl hV hVl hO hOl
  go_enter Tryd.func30, Tryd.ntmps30
  go_wp2_with (first
    | (with_reducible refine wpList_load_row rfl 25 (.tmp 3) rfl w.heap.size rfl 25 K.toArray (0, 0) (.array 32 5) R0.out Tryd.underlying25 rfl hszK.out ?_)
    | (with_reducible refine wpList_load_row rfl 25 (.tmp 4) rfl (w.heap.size + 1) rfl 25 M.toArray (0, 0) (.array 32 5) R1.out Tryd.underlying25 rfl hszM.out ?_)
    | (go_at_call 41; refine (htu.out _).mono ?_; rintro e w1 ⟨rfl, hb1⟩; have r0 := r0.later hb1 r0.lt; have r1 := r1.later hb1 r1.lt; have hbw1 := hb0.trans (hb1.mono hb0.size); clear hb1 hb0 R0 R1))
  have hcN0 := conv_later (w := w1) (A := some ⟨w.heap.size + 1, 0, none⟩) (c := 32) (l := nonce) ⟨Rd.row (ys := []) (by rw [List.append_nil, ← HM.out]; exact r1), by rw [length_byts, HN.out]; exact Nat.le_refl _, fun h => by cases h⟩ 32 HN.out.symm
  refine wp_region_noPanic ?_
  refine wp_region_held_drew (S := fun w' => Below w1.heap.size w1 w') (by kernel_rfl) ((Below.refl _ _).drew) (fun hHeld => ?_)
  refine rt 0 13 hHeld ?_ (hy := by intro w hS; exact run_load_op 25 (.tmp 3) rfl _ 0 rfl K _ (row_range (r0.later hS r0.lt)) Tryd.underlying25 rfl hszL.out)
  refine rt 1 14 hHeld ?_
  refine rt 2 15 hHeld ?_
  refine rt 3 16 hHeld ?_
  clear hcN0
  refine rc2 4 6 (fun K hK => ?_) fun K hK => ?_
  · refine step_alloc (some 17) rfl (by rfl) (.slice (some ⟨w1.heap.size, 0, none⟩) 2 2) (.cells #[.string (bstr nonce), .string (bstr C)] 9) (by go_simp) ?_; intro w5 hw5 hb5; have hss : Sl w5 (some ⟨w1.heap.size, 0, none⟩) 2 (strsV [nonce, C]) := (by rw [hw5]; exact ⟨Rd.row (ys := []) (by rw [List.append_nil]; exact Row.new w1.drew 9 (strsV [nonce, C])), by rw [length_strsV]; exact Nat.le_refl _, fun h => by cases h⟩); have hq5 := hHeld.trans (hb5.mono hHeld.size); clear hw5
    refine rk hK (hq5) fun hHeld => ?_
    clear hK K
    refine rc2 5 6 (fun K hK => ?_) fun K hK => ?_
    · go_simp
      refine (hkey.out _ _ _ hss).mono ?_; rintro e w6 ⟨rfl, hb6⟩; have hq6 := hHeld.trans (hb6.mono hHeld.size)
      try go_wp2_with fail
      refine hK.out _ _ (hq6) (fun hHeld => ?_)
      clear hK K
      refine rc1 6 fun K hK => ?_
      refine step_alloc (some 8) rfl (by rfl) (.pointer (some ⟨w6.heap.size, 0, none⟩)) (.cells (List.replicate 32 (.int .u8 0)).toArray 25) (by go_simp; try rfl) ?_; intro w7 hw7 hb7; have r7 : Row w7 w6.heap.size 25 (List.replicate 32 (.int .u8 0)) := (by rw [hw7]; exact Row.new w6 25 (List.replicate 32 (.int .u8 0))); have hq7 := hHeld.trans (hb7.mono hHeld.size); clear hw7
      refine rk hK (hq7) fun hHeld => ?_
      clear hK K
      refine rc1 7 fun K hK => ?_
      have hgA : w1.heap.size ≤ w6.heap.size := hq6.size
      refine step_store_row none rfl (by rfl) 25 (.tmp 8) (.tmp 18) rfl w6.heap.size 0 25 _ V rfl rfl r7 hfit.out hszl.out hone.out ?_; intro w9 r9 hg9; have hq9 := hHeld.grown hg9 hHeld.size (fun k h => by cases h; exact hgA)
      refine hK.out _ _ (hq9) (fun _ => ?_)
      clear hK K
      rw [put_none]
      refine wpAnyH_done (by kernel_rfl) ?_ _
      refine NoPanic.normal ?_
      rw [HVr.out] at r9
      generalize w6.heap.size = g at r9 ⊢
      clear r7 hss hHeld hg9 hb5 hb6 hb7 hq5 hq6 hq7
      have hslN : Sl w9 (some ⟨w.heap.size + 1, 0, none⟩) 32 (byts nonce) := ⟨Rd.row (ys := []) (by rw [List.append_nil, ← HM.out]; exact r1.later hq9 r1.lt), by rw [length_byts, HN.out]; exact Nat.le_refl _, fun h => by cases h⟩
      have hslO : Sl w9 (some ⟨g, 0, none⟩) 32 (byts O) := ⟨Rd.row (ys := []) (by rw [List.append_nil, ← HV.out]; exact r9), by rw [length_byts, HOl.out]; exact Nat.le_refl _, fun h => by cases h⟩
      have hcN := conv_later hslN 32 HN.out.symm
      have hcO := conv_later hslO 32 HOl.out.symm
      have hb9 := hbw1.trans (hq9.mono hbw1.size)
      clear hslN hslO r9 hq9 r1 r0 hgA
      have hc1 := hc1.out
      have hc2 := hc2.out
      go_wp2_with fail
      refine wp_region_noPanic ?_
      refine wp_region_held_drew (S := fun w' => Below w9.heap.size w9 w') (by kernel_rfl) ((Below.refl _ _).drew) (fun hHeld => ?_)
      refine rt 0 19 hHeld ?_
      refine rt 1 20 hHeld ?_
      refine rt 2 21 hHeld ?_
      refine rt 3 22 hHeld ?_
      refine rt 4 23 hHeld ?_
      refine rt 5 24 hHeld ?_
      refine rt 6 25 hHeld ?_
      refine rt 7 6 hHeld ?_
      refine wpAnyH_done (by kernel_rfl) ?_ _
      refine NoPanic.normal ?_
      clear hcN hcO hHeld
      go_wp2
      go_ret
      exact ⟨by show Ending.returned (.string (bstr nonce ++ bstr C ++ bstr O)) = _; rw [HA.out], hb9.drew⟩
    · refine step_alloc (some 8) rfl (by rfl) (.pointer (some ⟨w5.heap.size, 0, none⟩)) (.cells (List.replicate 32 (.int .u8 0)).toArray 25) (by go_simp; try rfl) ?_; intro w7 hw7 hb7; have r7 : Row w7 w5.heap.size 25 (List.replicate 32 (.int .u8 0)) := (by rw [hw7]; exact Row.new w5 25 (List.replicate 32 (.int .u8 0))); have hq7 := hHeld.trans (hb7.mono hHeld.size); clear hw7
      refine rk hK (hq7) fun hHeld => ?_
      clear hK K
      have hss := hss.later (Nat.le_refl _) hb7
      refine rc1 5 fun K hK => ?_
      go_simp
      refine (hkey.out _ _ _ hss).mono ?_; rintro e w6 ⟨rfl, hb6⟩; have hq6 := hHeld.trans (hb6.mono hHeld.size); have r7 := r7.later hb6 r7.lt
      try go_wp2_with fail
      refine hK.out _ _ (hq6) (fun hHeld => ?_)
      clear hK K
      refine rc1 7 fun K hK => ?_
      have hgA : w1.heap.size ≤ w5.heap.size := hq5.size
      refine step_store_row none rfl (by rfl) 25 (.tmp 8) (.tmp 18) rfl w5.heap.size 0 25 _ V rfl rfl r7 hfit.out hszl.out hone.out ?_; intro w9 r9 hg9; have hq9 := hHeld.grown hg9 hHeld.size (fun k h => by cases h; exact hgA)
      refine hK.out _ _ (hq9) (fun _ => ?_)
      clear hK K
      rw [put_none]
      refine wpAnyH_done (by kernel_rfl) ?_ _
      refine NoPanic.normal ?_
      rw [HVr.out] at r9
      generalize w5.heap.size = g at r9 ⊢
      clear r7 hss hHeld hg9 hb5 hb6 hb7 hq5 hq6 hq7
      have hslN : Sl w9 (some ⟨w.heap.size + 1, 0, none⟩) 32 (byts nonce) := ⟨Rd.row (ys := []) (by rw [List.append_nil, ← HM.out]; exact r1.later hq9 r1.lt), by rw [length_byts, HN.out]; exact Nat.le_refl _, fun h => by cases h⟩
      have hslO : Sl w9 (some ⟨g, 0, none⟩) 32 (byts O) := ⟨Rd.row (ys := []) (by rw [List.append_nil, ← HV.out]; exact r9), by rw [length_byts, HOl.out]; exact Nat.le_refl _, fun h => by cases h⟩
      have hcN := conv_later hslN 32 HN.out.symm
      have hcO := conv_later hslO 32 HOl.out.symm
      have hb9 := hbw1.trans (hq9.mono hbw1.size)
      clear hslN hslO r9 hq9 r1 r0 hgA
      have hc1 := hc1.out
      have hc2 := hc2.out
      go_wp2_with fail
      refine wp_region_noPanic ?_
      refine wp_region_held_drew (S := fun w' => Below w9.heap.size w9 w') (by kernel_rfl) ((Below.refl _ _).drew) (fun hHeld => ?_)
      refine rt 0 19 hHeld ?_
      refine rt 1 20 hHeld ?_
      refine rt 2 21 hHeld ?_
      refine rt 3 22 hHeld ?_
      refine rt 4 23 hHeld ?_
      refine rt 5 24 hHeld ?_
      refine rt 6 25 hHeld ?_
      refine rt 7 6 hHeld ?_
      refine wpAnyH_done (by kernel_rfl) ?_ _
      refine NoPanic.normal ?_
      clear hcN hcO hHeld
      go_wp2
      go_ret
      exact ⟨by show Ending.returned (.string (bstr nonce ++ bstr C ++ bstr O)) = _; rw [HA.out], hb9.drew⟩
  · refine step_alloc (some 8) rfl (by rfl) (.pointer (some ⟨w1.heap.size, 0, none⟩)) (.cells (List.replicate 32 (.int .u8 0)).toArray 25) (by go_simp; try rfl) ?_; intro w7 hw7 hb7; have r7 : Row w7 w1.heap.size 25 (List.replicate 32 (.int .u8 0)) := (by rw [hw7]; exact Row.new w1.drew 25 (List.replicate 32 (.int .u8 0))); have hq7 := hHeld.trans (hb7.mono hHeld.size); clear hw7
    refine rk hK (hq7) fun hHeld => ?_
    clear hK K
    refine rc1 4 fun K hK => ?_
    refine step_alloc (some 17) rfl (by rfl) (.slice (some ⟨w7.heap.size, 0, none⟩) 2 2) (.cells #[.string (bstr nonce), .string (bstr C)] 9) (by go_simp) ?_; intro w5 hw5 hb5; have hss : Sl w5 (some ⟨w7.heap.size, 0, none⟩) 2 (strsV [nonce, C]) := (by rw [hw5]; exact ⟨Rd.row (ys := []) (by rw [List.append_nil]; exact Row.new w7 9 (strsV [nonce, C])), by rw [length_strsV]; exact Nat.le_refl _, fun h => by cases h⟩); have hq5 := hHeld.trans (hb5.mono hHeld.size); clear hw5
    refine rk hK (hq5) fun hHeld => ?_
    clear hK K
    have r7 := r7.later hb5 r7.lt
    refine rc1 5 fun K hK => ?_
    go_simp
    refine (hkey.out _ _ _ hss).mono ?_; rintro e w6 ⟨rfl, hb6⟩; have hq6 := hHeld.trans (hb6.mono hHeld.size); have r7 := r7.later hb6 r7.lt
    try go_wp2_with fail
    refine hK.out _ _ (hq6) (fun hHeld => ?_)
    clear hK K
    refine rc1 7 fun K hK => ?_
    have hgA : w1.heap.size ≤ w1.heap.size := Nat.le_refl _
    refine step_store_row none rfl (by rfl) 25 (.tmp 8) (.tmp 18) rfl w1.heap.size 0 25 _ V rfl rfl r7 hfit.out hszl.out hone.out ?_; intro w9 r9 hg9; have hq9 := hHeld.grown hg9 hHeld.size (fun k h => by cases h; exact hgA)
    refine hK.out _ _ (hq9) (fun _ => ?_)
    clear hK K
    rw [put_none]
    refine wpAnyH_done (by kernel_rfl) ?_ _
    refine NoPanic.normal ?_
    rw [HVr.out] at r9
    generalize w1.heap.size = g at r9 ⊢
    clear r7 hss hHeld hg9 hb5 hb6 hb7 hq5 hq6 hq7
    have hslN : Sl w9 (some ⟨w.heap.size + 1, 0, none⟩) 32 (byts nonce) := ⟨Rd.row (ys := []) (by rw [List.append_nil, ← HM.out]; exact r1.later hq9 r1.lt), by rw [length_byts, HN.out]; exact Nat.le_refl _, fun h => by cases h⟩
    have hslO : Sl w9 (some ⟨g, 0, none⟩) 32 (byts O) := ⟨Rd.row (ys := []) (by rw [List.append_nil, ← HV.out]; exact r9), by rw [length_byts, HOl.out]; exact Nat.le_refl _, fun h => by cases h⟩
    have hcN := conv_later hslN 32 HN.out.symm
    have hcO := conv_later hslO 32 HOl.out.symm
    have hb9 := hbw1.trans (hq9.mono hbw1.size)
    clear hslN hslO r9 hq9 r1 r0 hgA
    have hc1 := hc1.out
    have hc2 := hc2.out
    go_wp2_with fail
    refine wp_region_noPanic ?_
    refine wp_region_held_drew (S := fun w' => Below w9.heap.size w9 w') (by kernel_rfl) ((Below.refl _ _).drew) (fun hHeld => ?_)
    refine rt 0 19 hHeld ?_
    refine rt 1 20 hHeld ?_
    refine rt 2 21 hHeld ?_
    refine rt 3 22 hHeld ?_
    refine rt 4 23 hHeld ?_
    refine rt 5 24 hHeld ?_
    refine rt 6 25 hHeld ?_
    refine rt 7 6 hHeld ?_
    refine wpAnyH_done (by kernel_rfl) ?_ _
    refine NoPanic.normal ?_
    clear hcN hcO hHeld
    go_wp2
    go_ret
    exact ⟨by show Ending.returned (.string (bstr nonce ++ bstr C ++ bstr O)) = _; rw [HA.out], hb9.drew⟩
end Go.Proofs.YtcbilopdeiapjaaDoor

/- LAYER 7: the document's Open. -/
namespace Go.Proofs.YtcbilopdeiapjaaDoor
set_option maxRecDepth 100000
open Go Go.RowKit

theorem extract_bstr (l : List UInt8) (i j : Nat) : (bstr l).extract i j = bstr ((l.drop i).take (j - i)) := ByteArray.extract_mk l i j
def openV (r : List UInt8 × Bool) : Value := .tuple #[.string (bstr r.1), .bool r.2]
set_option maxRecDepth 100000 in
set_option maxHeartbeats 2000000 in
theorem ropen_any (key : List UInt8) (hk : key.length = 32) (s : List UInt8) (hs : s.length ≤ 500000000) (w : World) :
    Calls Tryd.prog 26 #[.agg (byts key).toArray, .string (bstr s)] w fun e w' => e = .returned (openV (openL key s)) ∧ Below w.heap.size w w' := by
  have hz := size_bstr s
  have hb0 := (Below.refl w.heap.size w).alloc (Nat.le_refl _) (.cells (byts key).toArray 25)
  by_cases h64 : s.length < 64
  · have hL := Lib.hid (show openL key s = ([], false) by unfold openL; rw [if_pos h64])
    have h64' : (bstr s).size < 64 := by rw [hz]; exact h64
    clear h64 hz hs
    generalize bstr s = U at *
    generalize (byts key).toArray = KK at *
    go_enter Tryd.func26, Tryd.ntmps26
    go_wp2
    go_ret2
    exact ⟨by rw [hL.out]; rfl, hb0⟩
  obtain ⟨K, hK⟩ : ∃ K, K = byts key := ⟨_, rfl⟩
  have hKl : K.length = 32 := by rw [hK, length_byts]; exact hk
  have hszK := Lib.hid (show (Tryd.prog.info? 25).map (·.size) = some K.toArray.size by rw [size_tag, List.size_toArray, hKl])
  have hszL := Lib.hid (show (Tryd.prog.info? 25).map (·.size) = some K.length by rw [size_tag, hKl])
  obtain ⟨N, hN⟩ : ∃ N, N = s.take 32 := ⟨_, rfl⟩
  have hNl : N.length = 32 := by rw [hN, List.length_take]; omega
  obtain ⟨M, hM⟩ : ∃ M, M = byts N := ⟨_, rfl⟩
  have hMl : M.length = 32 := by rw [hM, length_byts]; exact hNl
  have hszM := Lib.hid (show (Tryd.prog.info? 25).map (·.size) = some M.toArray.size by rw [size_tag, List.size_toArray, hMl])
  have hszML := Lib.hid (show (Tryd.prog.info? 25).map (·.size) = some M.length by rw [size_tag, hMl])
  have h32 := Lib.hid (show 32 = M.toArray.size by rw [List.size_toArray, hMl])
  have hone := Lib.hid (all_one (show ∀ v ∈ M, v.oneCell' = true by rw [hM]; exact byts_one _))
  obtain ⟨C, hC⟩ : ∃ C, C = midS s := ⟨_, rfl⟩
  have hCl : C.length = s.length - 64 := by rw [hC]; exact length_midS s (by omega)
  obtain ⟨P, hP⟩ : ∃ P, P = turnL key N C := ⟨_, rfl⟩
  have hPl : P.length = s.length - 64 := by rw [hP, length_turnL]; exact hCl
  have htu := Lib.hid (show ∀ w1, Calls Tryd.prog 41 #[.agg K.toArray, .agg M.toArray, .string (bstr C)] w1 fun e w' => e = .returned (.string (bstr P)) ∧ Below w1.heap.size w1 w' by
    rw [hK, hM, hP]; exact fun w1 => rturn7_any key N hk hNl C (by omega) w1)
  have hse := Lib.hid (show ∀ w1, Calls Tryd.prog 30 #[.agg K.toArray, .agg M.toArray, .string (bstr P)] w1 fun e w' => e = .returned (.string (bstr (sealL key N P))) ∧ Below w1.heap.size w1 w' by
    rw [hK, hM]; exact fun w1 => rseal_any key N hk hNl P (by omega) w1)
  have htg := Lib.hid (show ∀ w1 A c, Sl w1 A c (byts N) → Calls Tryd.prog 28 #[.slice A 32 c] w1 fun e w' => e = .returned (.agg M.toArray) ∧ Below w1.heap.size w1 w' by
    rw [hM]; exact fun w1 A c h => rtag5_any A 32 c N w1 h hNl.symm hNl)
  have hL := Lib.hid (show openL key s = if sealL key N P = s then (P, true) else ([], false) by
    unfold openL
    rw [if_neg h64, ← hN, ← hC, ← hP])
  have hx1 : (bstr s).extract 0 32 = bstr N := by rw [extract_bstr, hN]; rfl
  have hx2 : (bstr s).extract 32 ((bstr s).size - 32) = bstr C := by rw [extract_bstr, hz, hC]; unfold midS; rw [show s.length - 32 - 32 = s.length - 64 by omega]
  have h64' : 64 ≤ (bstr s).size := by rw [hz]; omega
  obtain ⟨m, hm⟩ : ∃ m, m = (bstr s).size - 32 := ⟨_, rfl⟩
  rw [← hm] at hx2
  have hm0 : IntKind.i64.wrap (((bstr s).size : Int) - 32) = (m : Int) := by rw [hm, IntKind.wrap_i64]; omega
  have hm1 : (m : Int) ≤ ((bstr s).size : Int) := by omega
  have hm2 : (32 : Int) ≤ (m : Int) := by omega
  clear hm
  have hNl := Lib.hid hNl
  have hzN := size_bstr N
  rw [hNl.out] at hzN
  have r0 := Row.new w 25 K
  rw [← hK] at hb0 ⊢
  have HE := Lib.hid (bstr_beq (sealL key N P) s)
  clear hK hKl hMl hM hN hCl hC hPl hP hk h64 hs hz
  generalize hU : bstr s = U at *
  have hU := Lib.hid hU
  go_enter Tryd.func26, Tryd.ntmps26
  go_wp2_with (first
    | (refine wpList_conv_string rfl (.tmp 12) rfl N rfl ?_; intro A1 c1 w1 hsl1 hb1; rw [hNl.out]; have r0 := r0.later hb1 r0.lt; have hbw1 := hb0.trans (hb1.mono hb0.size); clear hb0 hb1)
    | (go_at_call 28; refine (htg.out _ _ _ hsl1).mono ?_; rintro e w3 ⟨rfl, hb3⟩; have r0 := r0.later hb3 r0.lt; have hbw3 := hbw1.trans (hb3.mono hbw1.size); clear hb3 hsl1)
    | (with_reducible refine wpList_store_row rfl 25 (.tmp 6) (.tmp 14) rfl w3.heap.size M.toArray rfl rfl 25 _ (heap_alloc_new w3 _) hszM.out (Eq.trans (by kernel_rfl) h32.out) hone.out ?_; refine Hid.out ?_))
  refine Lib.hid ?_
  generalize hw6 : World.setRow _ _ _ = w6
  obtain ⟨r6, hb6⟩ := row_new_set (xs := M) hw6
  have r0 := r0.later hb6 r0.lt
  have hbw6 := hbw3.trans (hb6.mono hbw3.size)
  clear hw6 hb6
  generalize w3.heap.size = g at *
  go_wp2_with fail
  refine wp_region_noPanic ?_
  refine wp_region_held_drew (S := fun w' => Below w6.heap.size w6 w') (by kernel_rfl) ((Below.refl _ _).drew) (fun hHeld => ?_)
  refine rt 0 15 hHeld ?_ (hy := by intro w hS; exact run_load_op 25 (.tmp 2) rfl _ 0 rfl K _ (row_range (r0.later hS r0.lt)) Tryd.underlying25 rfl hszL.out)
  refine rt 1 16 hHeld ?_ (hy := by intro w hS; exact run_load_op 25 (.tmp 6) rfl _ 0 rfl M _ (row_range (r6.later hS r6.lt)) Tryd.underlying25 rfl hszML.out)
  refine rt 2 17 hHeld ?_
  refine rt 3 18 hHeld ?_
  refine rt 4 19 hHeld ?_
  refine rt 5 20 hHeld ?_
  refine rt 6 21 hHeld ?_
  refine rc1 7 fun K hK => ?_
  go_simp
  refine (htu.out _).mono ?_; rintro e w8 ⟨rfl, hb8⟩; have hq8 := hHeld.trans (hb8.mono hHeld.size)
  try go_wp2_with fail
  refine hK.out _ _ (hq8) (fun hHeld => ?_)
  clear hK K
  refine rt 8 7 hHeld ?_
  refine wpAnyH_done (by kernel_rfl) ?_ _
  refine NoPanic.normal ?_
  clear hHeld
  have hb8 := hbw6.trans (hq8.mono hbw6.size)
  have R0 := Lib.hid (show w8.heap[w.heap.size]? = some (.cells K.toArray 25 (0, 0)) from r0.later hq8 r0.lt)
  have R6 := Lib.hid (show w8.heap[g]? = some (.cells M.toArray 25 (0, 0)) from r6.later hq8 r6.lt)
  clear r0 r6 hq8 hbw6 hbw3 hbw1
  by_cases hEq : sealL key N P = s
  · have hB : ((bstr (sealL key N P)).toList == U.toList) = true := by rw [HE.out]; exact decide_eq_true hEq
    have hL := Lib.hid (hL.out.trans (if_pos hEq))
    go_wp2_with (first
      | (with_reducible refine wpList_load_row rfl 25 (.tmp 2) rfl w.heap.size rfl 25 K.toArray (0, 0) (.array 32 5) R0.out Tryd.underlying25 rfl hszK.out ?_)
      | (with_reducible refine wpList_load_row rfl 25 (.tmp 6) rfl g rfl 25 M.toArray (0, 0) (.array 32 5) R6.out Tryd.underlying25 rfl hszM.out ?_)
      | (go_at_call 30; refine (hse.out _).mono ?_; rintro e w9 ⟨rfl, hb9⟩; have hb89 := hb8.trans (hb9.mono hb8.size)))
    go_ret2
    exact ⟨by rw [hL.out]; rfl, hb89⟩
  · have hB : ((bstr (sealL key N P)).toList == U.toList) = false := by rw [HE.out]; exact decide_eq_false hEq
    have hL := Lib.hid (hL.out.trans (if_neg hEq))
    go_wp2_with (first
      | (with_reducible refine wpList_load_row rfl 25 (.tmp 2) rfl w.heap.size rfl 25 K.toArray (0, 0) (.array 32 5) R0.out Tryd.underlying25 rfl hszK.out ?_)
      | (with_reducible refine wpList_load_row rfl 25 (.tmp 6) rfl g rfl 25 M.toArray (0, 0) (.array 32 5) R6.out Tryd.underlying25 rfl hszM.out ?_)
      | (go_at_call 30; refine (hse.out _).mono ?_; rintro e w9 ⟨rfl, hb9⟩; have hb89 := hb8.trans (hb9.mono hb8.size)))
    go_ret2
    exact ⟨by rw [hL.out]; rfl, hb89⟩
end Go.Proofs.YtcbilopdeiapjaaDoor

/- LAYER 19: the document's Start, Next. -/
namespace Go.Proofs.YtcbilopdeiapjaaDoor
set_option maxRecDepth 100000
open Go Go.RowKit

/-- An operation of a region that reckons a value and makes nothing. -/
theorem step_val {P : Program} {w : World} {ops : Array Oper} {o : Oper} {a : Act} {K : Act → World → Prop} {Q : Exit → Act → World → Prop} {E : Prop} (dst : Option Tmp) (hdst : o.dst = dst) (hgd : Region.wanted o (yielded ops a.tmps) = true) (v : Value)
    (hrun : (execOp a.eval o).run P w = .ok (.value v) w) (h : K (a.put dst v) w) : if Region.wanted o (yielded ops a.tmps) = true then Oper.wp P o a w K Q else E := by
  subst hdst
  rw [if_pos hgd]
  unfold Oper.wp
  rw [hrun]
  exact h
/-- A slice literal of strings. -/
theorem slice_strs1 (x : List UInt8) (w : World) : (Instr.buildSlice 68 1 #[(0, .string (bstr x))]).run Tryd.prog w = .ok (.slice (some ⟨w.heap.size, 0, none⟩) 1 1) (w.alloc (.cells (strsV [x]).toArray 9)) := by go_simp; rfl
theorem step_strs {w : World} {ops : Array Oper} {o : Oper} {a : Act} {K : Act → World → Prop} {Q : Exit → Act → World → Prop} {E : Prop} (dst : Option Tmp) (hdst : o.dst = dst) (hgd : Region.wanted o (yielded ops a.tmps) = true) (v : Value) (l : List (List UInt8))
    (hrun : (execOp a.eval o).run Tryd.prog w = .ok (.value v) (w.alloc (.cells (strsV l).toArray 9))) (hv : v = .slice (some ⟨w.heap.size, 0, none⟩) l.length l.length)
    (h : ∀ w', Sl w' (some ⟨w.heap.size, 0, none⟩) l.length (strsV l) → Below w.heap.size w w' → K (a.put dst (.slice (some ⟨w.heap.size, 0, none⟩) l.length l.length)) w') : if Region.wanted o (yielded ops a.tmps) = true then Oper.wp Tryd.prog o a w K Q else E := by
  subst hdst hv
  rw [if_pos hgd]
  unfold Oper.wp
  rw [hrun]
  refine h _ ?_ ((Below.refl _ w).alloc (Nat.le_refl _) _)
  have hr := Row.new w 9 (strsV l)
  exact ⟨Rd.row (ys := []) (by rw [List.append_nil]; exact hr), by rw [length_strsV]; exact Nat.le_refl _, fun h => by cases h⟩
theorem tag_fit (k : List UInt8) (hk : k.length = 32) : (byts k).length = 32 := by rw [length_byts]; exact hk
theorem two_rows19 {w w1 : World} {A B : List Value} {t u : TypeId} (h : (w.alloc (.cells A.toArray t)).alloc (.cells B.toArray u) = w1) : Row w1 w.heap.size t A ∧ Row w1 (w.heap.size + 1) u B ∧ Below w.heap.size w w1 := by
  subst h
  have h1 : Row (w.alloc (.cells A.toArray t)) w.heap.size t A := Row.new w _ _
  have hb1 : Below w.heap.size w (w.alloc (.cells A.toArray t)) := (Below.refl _ w).alloc (Nat.le_refl _) _
  have hb2 : Below (w.alloc (.cells A.toArray t)).heap.size (w.alloc (.cells A.toArray t)) ((w.alloc (.cells A.toArray t)).alloc (.cells B.toArray u)) := (Below.refl _ _).alloc (Nat.le_refl _) _
  have h2 : Row ((w.alloc (.cells A.toArray t)).alloc (.cells B.toArray u)) (w.alloc (.cells A.toArray t)).heap.size u B := Row.new _ _ _
  rw [World.size_alloc] at h2
  exact ⟨h1.later hb2 h1.lt, h2, hb1.trans (hb2.mono hb1.size)⟩
end Go.Proofs.YtcbilopdeiapjaaDoor

/- WORDS ON MEMORY, for slices of things of k cells. No Go function is spoken of here. -/
namespace Go.Proofs.YtcbilopdeiapjaaDoor
set_option maxRecDepth 100000
open Go Go.RowKit

theorem ownk_grown {w w' : World} {base t k n g : Nat} {v : Value} {xs : List Value} (h : w.ownsRow base t k v n xs) (hg : w.grownBy w' (some g)) (hlt : g < base) : w'.ownsRow base t k v n xs := by
  refine ⟨h.1, ?_⟩
  rcases h.2 with hn | ⟨g', cap, cur, rfl, hbg, hcur, rest⟩
  · exact .inl hn
  · exact .inr ⟨g', cap, cur, rfl, hbg, (hg.block g' (Array.getElem?_eq_some_iff.1 hcur).1 (fun e => by have := Option.some.inj e; omega)).trans hcur, rest⟩
/-- Where what is the call's own lies. -/
theorem ownk_fresh {w : World} {base t k n c : Nat} {A : Option Addr} {xs : List Value} (h : w.ownsRow base t k (.slice A n c) n xs) : ∀ a, A = some a → base ≤ a.block := by
  intro a ha
  subst ha
  rcases h.2 with ⟨h1, _⟩ | ⟨g, cap, cur, hv, hbg, _⟩
  · cases h1
  · injection hv with e1
    injection e1 with e1
    subst e1
    exact hbg
end Go.Proofs.YtcbilopdeiapjaaDoor

/- LAYER 8: package varint: Size, Put, Get. -/
namespace Go.Proofs.YtcbilopdeiapjaaDoor
set_option maxRecDepth 100000
open Go Go.RowKit

theorem length_varL_small (n : Nat) (h : n < 128) : (varL n).length = 1 := by rw [varL_small n h]; rfl
theorem length_varL_big (n : Nat) (h : ¬ n < 128) (hn : n < 18446744073709551616) : (varL n).length = (varL (n / 128)).length + 1 := by rw [varL_big n h hn]; rfl
set_option maxHeartbeats 1000000 in
theorem vsize_pure (m : Nat) (hm : m < 18446744073709551616) (w : World) :
    Calls Tryd.prog 95 #[.int .u64 m] w fun e w' => e = .returned (.int .i64 ((varL m).length : Int)) ∧ w' = w := by
  go_enter Tryd.func95, Tryd.ntmps95
  go_wp2_with fail
  go_loop [0, 3] (fun x s => ∃ q k : Nat, q < 18446744073709551616 ∧ x = .int .u64 q ∧ s = .int .i64 ((k : Int) + 1) ∧ (varL m).length + 1 = (varL q).length + (k + 1)) (fun x _ => (intOf x).toNat)
  case atStart => exact ⟨m, 0, hm, rfl, rfl, rfl⟩
  case round =>
    obtain ⟨q, k, hq, rfl, rfl, hlen⟩ := hrel
    have hl := length_varL m
    have hlq := length_varL q
    by_cases h0 : q < 128
    · rw [length_varL_small q h0] at hlen
      have hk := Lib.hid (show (varL m).length = k + 1 by omega)
      have hge : ¬ (128 : Int) ≤ (q : Int) := by omega
      clear hl hlq hlen hm
      go_wp2
      go_ret
      exact ⟨by rw [hk.out]; rfl, rfl⟩
    · have hlt : (128 : Int) ≤ (q : Int) := by omega
      rw [length_varL_big q h0 hq] at hlen
      have hlq2 := length_varL (q / 128)
      obtain ⟨q2, hq2⟩ : ∃ q2, q2 = q / 128 := ⟨_, rfl⟩
      have hquo : (q : Int) / 128 = (q2 : Int) := by rw [hq2]; omega
      have hsm : q2 < 18446744073709551616 ∧ q2 < q := by omega
      rw [← hq2] at hlen hlq2
      have hkb : (k : Int) ≤ 10 := by omega
      have hlen := Lib.hid hlen
      clear hl hlq hlq2 hq2
      go_wp2
      go_round
      case rel => exact ⟨q2, k + 1, hsm.1, rfl, rfl, by have := hlen.out; omega⟩
      case measure => have := hsm.2; simp [intOf]; omega
theorem or_128 : ∀ y : Nat, y < 256 → bits .or .u8 (y : Int) 128 = ((y % 128 + 128 : Nat) : Int) := by decide +kernel
set_option maxHeartbeats 2000000 in
theorem vput_any (A : Option Addr) (n c : Nat) (l : List UInt8) (m : Nat) (hm : m < 18446744073709551616) (w : World) (hs : Sl w A c (byts l)) (hn : n = l.length) (hl : l.length ≤ 1000000) :
    Calls Tryd.prog 87 #[.slice A n c, .int .u64 m] w (GaveBytes (l ++ varL m) w) := by
  subst hn
  obtain ⟨i0, hi, hz0, hz1, hz2⟩ := info_parts infoByte
  have hlm := length_varL m
  obtain ⟨T, hT⟩ : ∃ T, T = l.length + (varL m).length := ⟨_, rfl⟩
  have hTb : T ≤ 1000010 := by omega
  have hsum : (l.length : Int) + ((varL m).length : Int) = (T : Int) := by omega
  have hlT : l.length ≤ T := by omega
  have hmk : i0.bytes * T ≤ 281474976710656 := by rw [hz2]; omega
  have hTm : T ≤ maxLen := by unfold maxLen; omega
  have HL := Lib.hid (show l.length = (byts l).length from (length_byts l).symm)
  have hsz := Lib.hid (fun w1 => vsize_pure m hm w1)
  have hm64 := Lib.hid hm
  have HTT := Lib.hid hT
  clear hm hT hlm
  go_enter Tryd.func87, Tryd.ntmps87
  go_wp2_with (first
    | (go_at_call 95; refine (hsz.out _).mono ?_; rintro e w1 ⟨rfl, rfl⟩)
    | (at_make; refine wpList_make_own _ rfl _ _ 58 rfl w1.heap.size 5 i0 _ 1 Tryd.underlying58 hi hz0 hz1 _ _ _ T rfl rfl rfl hmk hTm (Nat.le_refl _) ?_; intro w2 hown2 hg2; have hb2 : Below w1.heap.size w1 w2 := (Below.refl _ _).grown hg2 (Nat.le_refl _) (fun _ h => by cases h); have hs2 := hs.later (Nat.le_refl _) hb2; clear hg2)
    | (at_builtin; refine wpList_append_sl rfl (.tmp 12) (.tmp 13) 58 rfl w1.heap.size 5 i0 _ 1 Tryd.underlying58 hi hz0 hz1 hz2 rfl _ 0 [] rfl hown2 A l.length c (byts l) rfl HL.out hs2 (byts_one _) (by unfold maxLen; omega) (by omega) hb2.size ?_; intro v3 w3 hown3 hg3; have hb3 : Below w1.heap.size w1 w3 := hb2.grown hg3 hb2.size (fun k hk => (hown2.lt k hk).1); rw [Nat.zero_add, List.nil_append] at hown3; clear hg3 hown2 hb2 hs2 hs))
  go_loopw [1, 5] (fun x v wr => ∃ (q : Nat) (X : List UInt8), q < 18446744073709551616 ∧ x = .int .u64 q ∧ wr.ownsRow w1.heap.size 5 1 v X.length (byts X) ∧ Below w1.heap.size w1 wr ∧ l ++ varL m = X ++ varL q) (fun x _ _ => (intOf x).toNat)
  case atStart => exact ⟨m, l, hm64.out, rfl, hown3, hb3, rfl⟩
  case round =>
    clear hown3 hb3 hsum hlT hmk hTm
    obtain ⟨q, X, hq, rfl, hown, hb, hlist⟩ := hrel
    have hXl : X.length ≤ 1000010 := by
      have := congrArg List.length hlist
      have h2 := HTT.out
      rw [List.length_append, List.length_append] at this
      omega
    have HX := Lib.hid (show X.length = (byts X).length from (length_byts X).symm)
    have hm1 : X.length + 1 ≤ maxLen := by unfold maxLen; omega
    have hm2 : (X.length + 1) * 1 ≤ 140737488355328 := by omega
    have hbw := hb.alloc hb.size
    by_cases h0 : q < 128
    · have HLs := Lib.hid (show l ++ varL m = X ++ [UInt8.ofNat q] by rw [hlist, varL_small q h0])
      have hge : ¬ (128 : Int) ≤ (q : Int) := by omega
      have hcv : IntKind.u8.wrap (q : Int) = (q : Int) := by rw [IntKind.wrap_u8]; omega
      have HB := Lib.hid (show (#[Value.int .u8 (q : Int)] : Array Value) = (byts [UInt8.ofNat q]).toArray by
        show _ = #[Value.int .u8 ((UInt8.ofNat q).toNat : Int)]
        rw [toNat_ofNat8 q (by omega)])
      have hsl1 := sl_lit wr [UInt8.ofNat q] _ (0, 0) HB.out 1 rfl
      have hown1 := own_later hown ((Below.refl wr.heap.size wr).alloc (Nat.le_refl _) (.cells #[Value.int .u8 (q : Int)] 5)) (Nat.le_refl _)
      have hb1 := hbw (.cells #[Value.int .u8 (q : Int)] 5)
      clear hown hb hbw hXl h0 hq hlist
      go_wp2_with (at_builtin; refine wpList_append_sl rfl (.tmp 25) (.tmp 28) 58 rfl w1.heap.size 5 i0 _ 1 Tryd.underlying58 hi hz0 hz1 hz2 rfl _ X.length (byts X) rfl hown1 (some ⟨wr.heap.size, 0, none⟩) 1 1 (byts [UInt8.ofNat q]) rfl rfl hsl1 (byts_one _) hm1 hm2 hb1.size ?_; intro v4 w4 hown4 hg4; have hb4 := hb1.grown hg4 hb1.size (fun k hk => (hown1.lt k hk).1))
      go_ret
      rw [← byts_append, ← HLs.out] at hown4
      rw [show X.length + 1 = (l ++ varL m).length by rw [HLs.out, List.length_append]; rfl] at hown4
      exact ⟨_, rfl, hown4, hb4⟩
    · have hlt : (128 : Int) ≤ (q : Int) := by omega
      obtain ⟨q2, hq2⟩ : ∃ q2, q2 = q / 128 := ⟨_, rfl⟩
      obtain ⟨z, hz⟩ : ∃ z, z = q % 128 := ⟨_, rfl⟩
      obtain ⟨y, hy⟩ : ∃ y, y = q % 256 := ⟨_, rfl⟩
      have hquo : (q : Int) / 128 = (q2 : Int) := by rw [hq2]; omega
      have hcv : IntKind.u8.wrap (q : Int) = (y : Int) := by rw [IntKind.wrap_u8, hy]; omega
      have hor : bits .or .u8 (y : Int) 128 = (z : Int) + 128 := by
        rw [or_128 y (by omega), hz, hy]; omega
      have HLs := Lib.hid (show l ++ varL m = (X ++ [UInt8.ofNat (z + 128)]) ++ varL q2 by rw [hlist, varL_big q h0 hq, hz, hq2]; simp)
      have HB := Lib.hid (show (#[Value.int .u8 ((z : Int) + 128)] : Array Value) = (byts [UInt8.ofNat (z + 128)]).toArray by
        show _ = #[Value.int .u8 ((UInt8.ofNat (z + 128)).toNat : Int)]
        rw [toNat_ofNat8 (z + 128) (by omega)]; rfl)
      have hsl1 := sl_lit wr [UInt8.ofNat (z + 128)] _ (0, 0) HB.out 1 rfl
      have hown1 := own_later hown ((Below.refl wr.heap.size wr).alloc (Nat.le_refl _) (.cells #[Value.int .u8 ((z : Int) + 128)] 5)) (Nat.le_refl _)
      have hb1 := hbw (.cells #[Value.int .u8 ((z : Int) + 128)] 5)
      have hsm : Hid (q2 < 18446744073709551616 ∧ q2 < q) := Lib.hid (by omega)
      clear hown hb hbw hXl h0 hq hq2 hz hy hlist
      go_wp2_with (at_builtin; refine wpList_append_sl rfl (.tmp 19) (.tmp 23) 58 rfl w1.heap.size 5 i0 _ 1 Tryd.underlying58 hi hz0 hz1 hz2 rfl _ X.length (byts X) rfl hown1 (some ⟨wr.heap.size, 0, none⟩) 1 1 (byts [UInt8.ofNat (z + 128)]) rfl rfl hsl1 (byts_one _) hm1 hm2 hb1.size ?_; intro v4 w4 hown4 hg4; have hb4 := hb1.grown hg4 hb1.size (fun k hk => (hown1.lt k hk).1))
      go_roundw
      case rel =>
        rw [← byts_append] at hown4
        rw [show X.length + 1 = (X ++ [UInt8.ofNat (z + 128)]).length by rw [List.length_append]; rfl] at hown4
        exact ⟨q2, _, hsm.out.1, rfl, hown4, hb4, HLs.out⟩
      case measure => have := hsm.out.2; simp [intOf]; omega
end Go.Proofs.YtcbilopdeiapjaaDoor

/- LAYER 9: package field: Put, Get, All, Join. -/
namespace Go.Proofs.YtcbilopdeiapjaaDoor
set_option maxRecDepth 100000
open Go Go.RowKit

/-- 'append' onto a slice with no spare room, nil let in: a new block. -/
theorem run_append_copy {P : Program} (w : World) (t ty e : TypeId) (i : TypeInfo) (z : Value) (k bytes : Nat) (ht : P.underlying t = some (.slice e)) (hi : P.info? e = some i) (hz : i.zero = some z)
    (hsize : i.size = k) (hk : 0 < k) (hby : i.bytes = bytes) (hzs : z.cells.size = k) (A0 : Option Addr) (n : Nat) (xs : List Value) (hxs : xs.length = n * k) (hsx : Sl w A0 (n * k) xs)
    (A : Option Addr) (m c : Nat) (news : List Value) (hm : news.length = m * k) (h0 : 0 < m) (hsl : Sl w A (c * k) news) (h1 : ∀ u ∈ news, u.oneCell' = true)
    (h63 : n + m ≤ maxLen) (hbytes : (n + m) * bytes ≤ 140737488355328) :
    ∃ v' w', (Builtin.append_ #[t, t] ty #[.slice A0 n n, .slice A m c]).run P w = .ok v' w' ∧ w'.ownsRow w.heap.size e k v' (n + m) (xs ++ news) ∧ Below w.heap.size w w' := by
  cases A0 with
  | none =>
    have hn : n = 0 := by
      rcases Nat.mul_eq_zero.1 (hsx.bare rfl) with h | h
      · exact h
      · omega
    subst hn
    obtain rfl : xs = [] := List.eq_nil_of_length_eq_zero (by omega)
    obtain ⟨v', w', hr, h2, h3⟩ := run_append_k (P := P) w w.heap.size t ty e i z k bytes ht hi hz hsize hk hby hzs (.slice none 0 0) 0 [] (World.ownsRow_nil w _ e k) A m c news hm hsl h1 h63 hbytes (Nat.le_refl _)
    exact ⟨v', w', hr, h2, below_of_grown h3⟩
  | some ad =>
    subst hsize hby
    obtain ⟨b', o', rfl, _, _⟩ := hsl.rd.get (i := 0) (by rw [hm]; exact Nat.mul_pos h0 hk)
    have hr := run_append_grow (P := P) (w := w) t ty e i z ht hi hz ad n n xs hxs hsx.rd.at_add ⟨b', o', none⟩ m c news hm hsl.rd.at_add (by omega) (by unfold maxLen at h63; omega) (growslice_fits (by omega) hbytes)
    have hge := grownCap_ge w (n + m) n e
    have hcm : grownCap w (n + m) n e ≤ maxLen := grownCap_le_maxLen w (n + m) n e h63
    have hlen : (xs ++ news).length = (n + m) * i.size := by rw [List.length_append, hxs, hm, Nat.add_mul]
    refine ⟨_, _, hr, ⟨hlen, .inr ⟨w.heap.size, _, _, rfl, Nat.le_refl _, heap_alloc_new w.drew _, hge, hcm, ?_, ?_⟩⟩, ((Below.refl _ w).drew).alloc (Nat.le_refl _) _⟩
    · simp only [Array.size_append, List.size_toArray, size_zeroCells, hzs, hxs, hm, ← Nat.add_mul]
      congr 1
      omega
    · simp only [Array.toList_append, List.append_assoc]
      rw [← List.append_assoc, ← hlen]
      exact List.take_left
theorem step_append_copy {P : Program} {w : World} {ops : Array Oper} {o : Oper} {a : Act} {K : Act → World → Prop} {Q : Exit → Act → World → Prop} {E : Prop} (dst : Option Tmp) (hdst : o.dst = dst) (hgd : Region.wanted o (yielded ops a.tmps) = true) (s x : Operand) (t : TypeId)
    (ho : o.op = .call { callee := .builtin .append, args := #[s, x], argTypes := #[t, t] })
    (e : TypeId) (i : TypeInfo) (z : Value) (k bytes : Nat) (ht : P.underlying t = some (.slice e)) (hi : P.info? e = some i) (hz : i.zero = some z)
    (hsize : i.size = k) (hk : 0 < k) (hby : i.bytes = bytes) (hzs : z.cells.size = k)
    (A0 : Option Addr) (n : Nat) (xs : List Value) (hs : a.eval s = .slice A0 n n) (hxs : xs.length = n * k) (hsx : Sl w A0 (n * k) xs)
    (A : Option Addr) (m c : Nat) (news : List Value) (hx : a.eval x = .slice A m c) (hm : news.length = m * k) (h0 : 0 < m) (hsl : Sl w A (c * k) news) (h1 : ∀ u ∈ news, u.oneCell' = true)
    (h63 : n + m ≤ maxLen) (hbytes : (n + m) * bytes ≤ 140737488355328)
    (h : ∀ v' w', w'.ownsRow w.heap.size e k v' (n + m) (xs ++ news) → Below w.heap.size w w' → K (a.put dst v') w') :
    if Region.wanted o (yielded ops a.tmps) = true then Oper.wp P o a w K Q else E := by
  subst hdst
  rw [if_pos hgd]
  obtain ⟨v', w', hrun, h2, h3⟩ := run_append_copy (P := P) w t o.type e i z k bytes ht hi hz hsize hk hby hzs A0 n xs hxs hsx A m c news hm h0 hsl h1 h63 hbytes
  unfold Oper.wp execOp
  simp only [ho, resolve, invoke, builtin, Sem.run_bind, Sem.run_pure, Result.andThen_ok, List.map_toArray, List.map_cons, List.map_nil, hs, hx, hrun]
  exact h v' w' h2 h3
theorem strCells_b (l : List UInt8) : Lib.strCells (bstr l) = byts l := by unfold Lib.strCells bstr byts; simp
/-- Results: a struct that lies in memory, and two slots. -/
theorem results_row_tmp2 {P : Program} {fn : Func} {p u u2 : Tmp} {ty : TypeId} (h : fn.results = #[.cell p ty, .tmp u, .tmp u2]) (tmps : Array Value) (w : World) (g : Nat) (t : TypeId) (cs : Array Value) (fr : Nat × Nat) (d : TypeDesc)
    (hp : tmps.getD p undef = .pointer (some ⟨g, 0, none⟩)) (hg : w.heap[g]? = some (.cells cs t fr))
    (hu : P.underlying ty = some d) (hd : (match d with | .struct _ | .array _ _ => true | _ => false) = true) (hi : (P.info? ty).map (·.size) = some cs.size) (v v2 : Value) (hv : tmps.getD u undef = v) (hv2 : tmps.getD u2 undef = v2) :
    (results fn tmps).run P w = .ok (.tuple #[.agg cs, v, v2]) w := by
  have e : (results fn tmps).run P w = ((asAddr (tmps.getD p undef)).run P w).andThen fun a w1 => ((loadVar ty a).run P w1).andThen fun q w2 => .ok (.tuple #[q, tmps.getD u undef, tmps.getD u2 undef]) w2 := by
    simp only [results, h]
    simp [Sem.run_bind, Result.andThen]
  rw [e, hp, hv, hv2]
  simp [asAddr, Result.andThen, run_loadVar_row w g t ty cs fr d hg hu hd hi]
theorem size_ff : (Tryd.prog.info? 113).map (·.size) = some 2 := by kernel_rfl
theorem index_ff (A : Option Addr) (b o n c k : Nat) (hA : A = some ⟨b, o, none⟩) (hk : k < n) (w : World) :
    (Instr.indexAt 92 (.slice A n c) (.int .i64 k)).run Tryd.prog w = .ok (.pointer (some ⟨b, o + k * 2, none⟩)) w := by
  subst hA
  have h : (k : Int) < (n : Int) := by omega
  go_simp
/-- A slice's beginning, with no spare room. -/
theorem cut3_run (A : Option Addr) (n c : Nat) (hn : n ≤ c) (hA : A = none → c = 0) (w : World) :
    (Instr.sliceAt 58 (.slice A n c) none (some (.int .i64 n)) (some (.int .i64 n))).run Tryd.prog w = .ok (.slice A n n) w := by
  have h : (n : Int) ≤ (c : Int) := by omega
  cases A with
  | none =>
    have hc := hA rfl
    subst hc
    obtain rfl : n = 0 := by omega
    clear h hn hA
    go_simp
  | some a =>
    clear hA hn
    go_simp
set_option maxRecDepth 100000 in
set_option maxHeartbeats 2000000 in
theorem fput_any (A : Option Addr) (n c : Nat) (l : List UInt8) (f : Fd) (hf : f.2.length ≤ 1000000) (w : World) (hs : Sl w A c (byts l)) (hn : n = l.length) (hl : l.length ≤ 1000000) :
    Calls Tryd.prog 77 #[.slice A n c, .agg (fdV f).toArray] w (GaveBytes (l ++ fieldL f) w) := by
  subst hn
  obtain ⟨x, s⟩ := f
  dsimp only at hf
  obtain ⟨i0, hi, hz0, hz1, hz2⟩ := info_parts infoByte
  have hlL := length_varL s.length
  obtain ⟨L, hL⟩ : ∃ L, L = varL s.length := ⟨_, rfl⟩
  rw [← hL] at hlL
  have hz := size_bstr s
  have hwz : IntKind.u64.wrap (s.length : Int) = (s.length : Int) := by rw [IntKind.wrap_u64]; omega
  have hvp := Lib.hid (show ∀ w1, Calls Tryd.prog 87 #[.slice none 0 0, .int .u64 s.length] w1 (GaveBytes L w1) by
    intro w1
    have h := vput_any none 0 0 [] s.length (by omega) w1 ⟨.inl rfl, Nat.le_refl _, fun _ => rfl⟩ rfl (by simp)
    rw [List.nil_append] at h
    rw [hL]
    exact h)
  have hF := Lib.hid (show l ++ fieldL (x, s) = (l ++ [x]) ++ L ++ s by rw [hL]; unfold fieldL; simp)
  have HLL := Lib.hid (show L.length = (byts L).length from (length_byts L).symm)
  have hroom := hs.room
  rw [length_byts] at hroom
  have hs1 : Sl w A (l.length * 1) (byts l) := by
    rw [Nat.mul_one]
    refine ⟨hs.rd, by rw [length_byts]; exact Nat.le_refl _, fun h => ?_⟩
    have := hs.bare h
    omega
  have hcut := cut3_run A l.length c hroom hs.bare
  have hl1 : (byts l).length = l.length * 1 := by rw [length_byts, Nat.mul_one]
  have n1 : l.length + 1 ≤ maxLen := by unfold maxLen; omega
  have n2 : (l.length + 1) * 1 ≤ 140737488355328 := by omega
  have m1 : l.length + 1 + L.length ≤ maxLen := by unfold maxLen; omega
  have m2 : (l.length + 1 + L.length) * 1 ≤ 140737488355328 := by omega
  have p1 : l.length + 1 + L.length + (bstr s).size ≤ maxLen := by rw [hz]; unfold maxLen; omega
  have p2 : l.length + 1 + L.length + (bstr s).size ≤ 140737488355328 := by rw [hz]; omega
  have tok1 : True := trivial
  have HL1 := Lib.hid hl1
  clear hL hlL hs hl1
  go_enter Tryd.func77, Tryd.ntmps77
  go_wp2_with fail
  generalize hw3 : World.alloc w _ = w3
  have hr : Row w3 w.heap.size 113 (fdV (x, s)) := by rw [← hw3]; exact Row.new w _ (fdV (x, s))
  have hb3 : Below w.heap.size w w3 := by rw [← hw3]; exact (Below.refl _ w).alloc (Nat.le_refl _) _
  have hs3 := hs1.later (Nat.le_refl _) hb3
  clear hw3 hs1
  have hcA : ∀ w', Below w3.heap.size w3 w' → w'.cell? ⟨w.heap.size, 0, none⟩ = some (.int .u8 (x.toNat : Int)) := fun w' h => by rw [(hr.later h hr.lt).cell]; rfl
  refine wp_region_noPanic ?_
  refine wp_region_held_drew (S := fun w' => Below w3.heap.size w3 w') (by kernel_rfl) ((Below.refl _ _).drew) (fun hHeld => ?_)
  have hB := hHeld
  refine rt 0 6 hHeld ?_
  refine rt 1 7 hHeld ?_
  refine rt 2 8 hHeld ?_
  refine rt 3 9 hHeld ?_
  refine rt 4 10 hHeld ?_
  refine rt 5 11 hHeld ?_
  refine rt 6 12 hHeld ?_
  refine rt 7 13 hHeld ?_
  refine rc1 8 fun K hK => ?_
  refine step_alloc (some 14) rfl (by rfl) (.slice (some ⟨w3.heap.size, 0, none⟩) 1 1) (.cells (byts [x]).toArray 5) (by go_simp; try rfl) ?_; intro ww38 hw hqw38; have hsl8 : Sl ww38 (some ⟨w3.heap.size, 0, none⟩) (1 * 1) (byts [x]) := (by rw [hw]; exact ⟨Rd.row (ys := []) (by rw [List.append_nil]; exact Row.new w3.drew 5 (byts [x])), Nat.le_refl _, fun h => by cases h⟩); clear hw
  refine hK.out _ _ (hHeld.trans (hqw38.mono hHeld.size)) (fun hHeld' => ?_)
  clear hK K
  try (first | (rw [put_some]; dsimp only [List.set]) | rw [put_none])
  have hB := below_step hB hqw38
  have hB8 : Below ww38.heap.size ww38 ww38 := Below.refl _ _
  refine wpAnyH_narrow (S' := fun w' => Below ww38.heap.size ww38 w') (fun _ h => (hHeld.trans (hqw38.mono hHeld.size)).trans (h.mono (hHeld.trans (hqw38.mono hHeld.size)).size)) _ _ _ _ ?_
  clear hHeld
  have hHeld : Below ww38.heap.size ww38 ww38 := Below.refl _ _
  refine rc1 9 fun K hK => ?_
  refine step_append_copy (some 15) rfl (by rfl) (.tmp 11) (.tmp 14) 58 rfl 5 i0 _ 1 1 Tryd.underlying58 hi hz0 hz1 (by omega) hz2 rfl A l.length (byts l) rfl HL1.out (hs3.later (Nat.le_refl _) hB) (some ⟨w3.heap.size, 0, none⟩) 1 1 (byts [x]) rfl rfl (by omega) (hsl8.later (Nat.le_refl _) hB8) (byts_one _) n1 n2 ?_; intro v9 ww39 hown9 hqw39; rw [← byts_append] at hown9; have hq9 := Lib.hid (show w3.heap.size ≤ ww38.heap.size from hB.size)
  refine hK.out _ _ (hHeld.trans (hqw39.mono hHeld.size)) (fun hHeld' => ?_)
  clear hK K
  try (first | (rw [put_some]; dsimp only [List.set]) | rw [put_none])
  have hB := below_step hB hqw39
  have hB8 := below_step hB8 hqw39
  have hB9 : Below ww39.heap.size ww39 ww39 := Below.refl _ _
  refine wpAnyH_narrow (S' := fun w' => Below ww39.heap.size ww39 w') (fun _ h => (hHeld.trans (hqw39.mono hHeld.size)).trans (h.mono (hHeld.trans (hqw39.mono hHeld.size)).size)) _ _ _ _ ?_
  clear hHeld
  have hHeld : Below ww39.heap.size ww39 ww39 := Below.refl _ _
  refine rt 10 5 hHeld ?_
  refine wpAnyH_done (by kernel_rfl) ?_ _
  refine NoPanic.normal ?_
  have hown9 := own_mono (own_later hown9 hB9 (Nat.le_refl _)) hq9.out
  have hbE := hb3.trans (hB.mono hb3.size)
  have r9 := hr.later hB hr.lt
  clear hHeld hsl8 hB8 hs3 hcut hcA
  have hcB : ww39.cell? ⟨w.heap.size, 1, none⟩ = some (.string (bstr s)) := by rw [r9.cell]; rfl
  go_wp2_with (first
    | (go_at_call 87; refine (hvp.out _).mono ?_; rintro e w5 ⟨v5, rfl, hown5, hb5⟩; obtain ⟨A5, c5, rfl, _, hsl5⟩ := Sl.of_own hown5; have hown9b := own_later hown9 hb5 (Nat.le_refl _); have hB5 := below_step hB hb5; clear hown5)
    | (at_builtin; have _t := tok1; refine wpList_append_sl rfl (.tmp 16) (.tmp 21) 58 rfl w3.heap.size 5 i0 _ 1 Tryd.underlying58 hi hz0 hz1 hz2 rfl _ (l.length + 1) (byts (l ++ [x])) rfl hown9b A5 L.length c5 (byts L) rfl HLL.out hsl5 (byts_one _) m1 m2 hB5.size ?_; intro v6 w6 hown6 hg6; have hB6 : Below w3.heap.size w3 w6 := hB5.grown hg6 hB5.size (fun k hk => (hown9b.lt k hk).1); have hcB6 : w6.cell? ⟨w.heap.size, 1, none⟩ = some (.string (bstr s)) := (by rw [(hr.later hB6 hr.lt).cell]; rfl); clear tok1 hg6 hown9b hsl5)
    | (at_builtin; refine Lib.wpList_append_own_string _ rfl (.tmp 23) (.tmp 25) 58 9 rfl w3.heap.size 5 i0 Tryd.underlying58 Tryd.underlying9 hi hz0 hz1 hz2 _ (l.length + 1 + L.length) (byts (l ++ [x]) ++ byts L) rfl hown6 (bstr s) rfl p1 p2 hB6.size ?_; intro v7 w7 hown7 hg7 _; have hB7 : Below w3.heap.size w3 w7 := hB6.grown hg7 hB6.size (fun k hk => (hown6.lt k hk).1)))
  go_ret
  refine ⟨_, rfl, ?_, hb3.trans (hB7.mono hb3.size)⟩
  have e1 : byts (l ++ [x]) ++ byts L ++ byts s = byts (l ++ [x] ++ L ++ s) := by simp only [byts_append]
  have e2 : l.length + 1 + L.length + s.length = (l ++ [x] ++ L ++ s).length := by simp only [List.length_append, List.length_cons, List.length_nil]
  rw [strCells_b, e1, hz, e2] at hown7
  rw [hF.out]
  exact own_mono hown7 hb3.size
set_option maxRecDepth 100000 in
set_option maxHeartbeats 2000000 in
theorem fjoin_any (A : Option Addr) (n c : Nat) (fs : List Fd) (w : World) (hs : Sl w A (c * 2) (fs.flatMap fdV)) (hn : n = fs.length) (hm : (joinL fs).length ≤ 1000000) :
    Calls Tryd.prog 62 #[.slice A n c] w (GaveBytes (joinL fs) w) := by
  subst hn
  obtain ⟨i0, hi, hz0, hz1, hz2⟩ := info_parts infoByte
  have hln := joinL_len fs
  have hown0 : w.ownsRow w.heap.size 5 1 (.slice none 0 0) 0 [] := World.ownsRow_nil w _ _ _
  have hb0 := Below.refl w.heap.size w
  go_enter Tryd.func62, Tryd.ntmps62
  go_wp2_with fail
  go_loopw [3, 8] (fun v i wr => ∃ k : Nat, k ≤ fs.length ∧ i = .int .i64 k ∧ wr.ownsRow w.heap.size 5 1 v (joinL (fs.take k)).length (byts (joinL (fs.take k))) ∧ Below w.heap.size w wr) (fun _ i _ => fs.length - (intOf i).toNat)
  case atStart => exact ⟨0, by omega, rfl, hown0, hb0⟩
  case round =>
    clear hown0 hb0
    obtain ⟨k, hk, rfl, hown, hb⟩ := hrel
    by_cases hlt : k < fs.length
    · obtain ⟨f, hf⟩ : ∃ f, fs[k]? = some f := ⟨_, List.getElem?_eq_getElem hlt⟩
      obtain ⟨b, o, rfl, hb0, hr0⟩ := hs.rd.get (i := 0) (by rw [length_fdsV]; omega)
      clear hb0 hr0
      have hix := index_ff (some ⟨b, o, none⟩) b o fs.length c k rfl hlt
      have hrg := (hs.later (Nat.le_refl _) hb).thing (k := 2) (fun _ _ => rfl) k f hf
      have HS := Lib.hid (joinL_succ fs k f hf)
      have hjl : (joinL (fs.take (k + 1))).length ≤ (joinL fs).length := by
        have e : fs = fs.take (k + 1) ++ fs.drop (k + 1) := (List.take_append_drop (k + 1) fs).symm
        conv => rhs; rw [e]
        rw [joinL_append, List.length_append]; omega
      rw [HS.out, List.length_append] at hjl
      have hfl := length_fieldL f
      have hby := Lib.hid (show ∀ w1, Calls Tryd.prog 77 #[.slice none 0 0, .agg (fdV f).toArray] w1 (GaveBytes (fieldL f) w1) by
        intro w1
        have h := fput_any none 0 0 [] f (by omega) w1 ⟨.inl rfl, Nat.le_refl _, fun _ => rfl⟩ rfl (by simp)
        rw [List.nil_append] at h
        exact h)
      have hzf := Lib.hid (show (Tryd.prog.info? 113).map (·.size) = some (fdV f).length from size_ff)
      have hzf2 := Lib.hid (show (Tryd.prog.info? 113).map (·.size) = some (fdV f).toArray.size from size_ff)
      have hof := Lib.hid (show (fdV f).toArray.all (·.oneCell') = true from all_one (fun v hv => fdV_one [f] v (by simpa using hv)))
      obtain ⟨V, hV⟩ : ∃ V, V = fdV f := ⟨_, rfl⟩
      rw [← hV] at hrg hby hzf hzf2 hof
      have hV2 := Lib.hid (show (2 : Nat) = V.toArray.size by rw [hV]; rfl)
      clear hV
      generalize joinL (fs.take k) = F at *
      have n1 : F.length + (fieldL f).length ≤ maxLen := by unfold maxLen; omega
      have n2 : (F.length + (fieldL f).length) * 1 ≤ 140737488355328 := by omega
      generalize fieldL f = G at *
      have HG := Lib.hid (show G.length = (byts G).length from (length_byts G).symm)
      clear hfl hf
      go_wp2_with (first
        | (with_reducible refine wpList_load_mid rfl 113 (.tmp 10) rfl b (o + k * 2) rfl V _ hrg Tryd.underlying113 rfl hzf.out ?_)
        | (with_reducible refine wpList_store_row rfl 113 (.tmp 5) (.tmp 11) rfl wr.heap.size V.toArray rfl rfl 113 _ (heap_alloc_new wr _) hzf2.out (Eq.trans (by kernel_rfl) hV2.out) hof.out ?_; refine Hid.out ?_))
      refine Lib.hid ?_
      generalize hw5 : World.setRow _ _ _ = w5
      obtain ⟨r5, hb5⟩ := row_new_set (xs := V) hw5
      have R5 := Lib.hid (show w5.heap[wr.heap.size]? = some (.cells V.toArray 113 (0, 0)) from r5)
      have hown5 := own_later hown hb5 (Nat.le_refl _)
      have hbw5 := hb.trans (hb5.mono hb.size)
      clear hw5 r5 hb5 hown
      go_wp2_with (first
        | (with_reducible refine wpList_load_row rfl 113 (.tmp 5) rfl wr.heap.size rfl 113 V.toArray (0, 0) _ R5.out Tryd.underlying113 rfl hzf2.out ?_)
        | (go_at_call 77; refine (hby.out _).mono ?_; rintro e w6 ⟨v6, rfl, hown6, hb6⟩; obtain ⟨A6, c6, rfl, _, hsl6⟩ := Sl.of_own hown6; have hownF := own_later hown5 hb6 (Nat.le_refl _); have hbw6 := hbw5.trans (hb6.mono hbw5.size); clear hown6 hb6)
        | (at_builtin; refine wpList_append_sl rfl (.tmp 12) (.tmp 14) 58 rfl w.heap.size 5 i0 _ 1 Tryd.underlying58 hi hz0 hz1 hz2 rfl _ F.length (byts F) rfl hownF A6 G.length c6 (byts G) rfl HG.out hsl6 (byts_one _) n1 n2 hbw6.size ?_; intro v7 w7 hown7 hg7; have hbw7 : Below w.heap.size w w7 := hbw6.grown hg7 hbw6.size (fun k hk => (hownF.lt k hk).1)))
      rw [← byts_append, ← List.length_append, ← HS.out] at hown7
      go_roundw
      case rel => exact ⟨k + 1, by omega, by go_num, hown7, hbw7⟩
      case measure => simp [intOf]; omega
    · obtain rfl : k = fs.length := by omega
      rw [List.take_length] at hown
      clear hlt hk hs
      generalize fs.length = n at *
      go_wp2
      go_ret
      exact ⟨_, rfl, hown, hb⟩
end Go.Proofs.YtcbilopdeiapjaaDoor
