/- Texts of this claim, one behind the other. -/
import Derived.Test.YtcbilopdeiapjaaDoorRbag
import Derived.Test.YtcbilopdeiapjaaDoorRbaj
import Derived.Test.YtcbilopdeiapjaaDoorRbah
import Derived.Test.YtcbilopdeiapjaaDoorRbac
import Derived.Deep.DeepCutAuto
import Derived.Test.YtcbilopdeiapjaaDoorRbab
import Derived.Great.BuildSlice
import Derived.Test.YtcbilopdeiapjaaDoorRbaa
import Derived.ChangeKeysEq
import Derived.Laws.StructEq
/- LAYER 20: package third: Unlock, Reveal. -/
namespace Go.Proofs.YtcbilopdeiapjaaDoor
set_option maxRecDepth 100000
open Go Go.RowKit

set_option maxHeartbeats 4000000 in
theorem punlock20_T (key s : List UInt8) (hk : key.length = 32) (hs : s.length ≤ 100000) (w : World) (hT : Tabs w) :
    Calls Tryd.prog 10 #[.agg (byts key).toArray, .string (bstr s)] w fun e w' => e = .returned (.tuple #[.agg (byts (unlockL key s).1).toArray, .string (bstr (unlockL key s).2.1), .bool (unlockL key s).2.2]) ∧ Below w.heap.size w w' := by
  have hkz := Lib.hid (show (Tryd.prog.info? 25).map (·.size) = some (byts key).toArray.size by rw [List.size_toArray, tag_fit key hk]; exact size_tag)
  obtain ⟨Z, hZ⟩ : ∃ Z, Z = byts zero32 := ⟨_, rfl⟩
  have hZe : Z = List.replicate 32 (Value.int .u8 0) := by rw [hZ]; rfl
  have hzZ := Lib.hid (show (Tryd.prog.info? 25).map (·.size) = some Z.toArray.size by rw [hZe]; exact size_tag)
  have hZ1 := Lib.hid (show Z.toArray.all (·.oneCell') = true by rw [hZ]; exact all_one (byts_one _))
  have HZ := Lib.hid hZ
  have HZe := Lib.hid hZe
  have hky := Lib.hid (fun w' (h : Tabs w') => dkey_any key hk partyU none 0 0 [] w' h ⟨.inl rfl, Nat.le_refl _, fun _ => rfl⟩ rfl (by show (5 + 1) + 0 ≤ _; decide))
  have hop := Lib.hid (fun w' (h : Tabs w') => dopen_any (keyD key partyU []) (length_keyD _ _ _) s (by omega) w' h)
  have hPl := openL_len (keyD key partyU []) s
  have HU : unlockL key s = if (openL (keyD key partyU []) s).2 = true ∧ 32 ≤ (openL (keyD key partyU []) s).1.length then ((openL (keyD key partyU []) s).1.take 32, (openL (keyD key partyU []) s).1.drop 32, true) else (zero32, [], false) := rfl
  unfold openV at hop
  generalize keyD key partyU [] = kd at *
  obtain ⟨⟨P, ok⟩, hO⟩ : ∃ O, O = openL kd s := ⟨_, rfl⟩
  rw [← hO] at hop hPl HU
  have HU := Lib.hid HU
  clear hO hk hZ hZe
  have hPl : P.length ≤ s.length := hPl
  have hzP := size_bstr P
  generalize unlockL key s = R at *
  go_enter Tryd.func10, Tryd.ntmps10
  go_upto_region 1 with fail
  generalize hw1 : World.alloc (World.alloc _ _) _ = w1
  obtain ⟨r1, r2, hb1⟩ := two_rows19 (B := List.replicate 32 (Value.int .u8 0)) hw1
  rw [← HZe.out] at r2
  have R1 := Lib.hid (show w1.heap[w.heap.size]? = some (.cells (byts key).toArray 25 (0, 0)) from r1)
  clear hw1 r1
  go_wp2_with (first
    | (with_reducible refine wpList_load_row rfl 25 (.tmp 2) rfl w.heap.size rfl 25 (byts key).toArray (0, 0) _ R1.out Tryd.underlying25 rfl hkz.out ?_)
    | (go_at_call 24; refine (hky.out _ (hT.later hb1 (Nat.le_refl _))).mono ?_; rintro e w2 ⟨rfl, hq⟩; have r2 := r2.later hq r2.lt; have hb2 := hb1.trans (hq.mono hb1.size); clear hq)
    | (go_at_call 23; refine (hop.out _ (hT.later hb2 (Nat.le_refl _))).mono ?_; rintro e w3 ⟨rfl, hq⟩; have r2 := r2.later hq r2.lt; have hb3 := hb2.trans (hq.mono hb2.size); clear hq; refine Hid.out ?_))
  refine Lib.hid ?_
  clear hb1 hb2 R1 hky hop hkz
  have R2 := Lib.hid (show w3.heap[w.heap.size + 1]? = some (.cells Z.toArray 25 (0, 0)) from r2)
  cases ok with
  | false =>
    have HB := Lib.hid (HU.out.trans (if_neg (fun h => by cases h.1)))
    go_wp2_with (have _t := R2; refine wpList_store_row rfl 25 (.tmp 4) (.tmp 23) rfl (w.heap.size + 1) Z.toArray rfl (by rw [HZe.out]; rfl) 25 Z.toArray R2.out hzZ.out rfl hZ1.out ?_; refine Hid.out ?_)
    refine Lib.hid ?_
    generalize hw8 : World.setRow _ _ _ = w8
    obtain ⟨r8, hg8⟩ := row_set (show Row w3 (w.heap.size + 1) 25 Z from R2.out) hw8
    have hb8 := hb3.grown hg8 hb3.size (fun k h => by cases h; omega)
    have R8 := Lib.hid (show w8.heap[w.heap.size + 1]? = some (.cells Z.toArray 25 (0, 0)) from r8)
    clear hw8 r8 R2 r2
    go_wp2_with fail
    exact ⟨rfl, _, results_row_tmp2 rfl _ _ (w.heap.size + 1) 25 Z.toArray (0, 0) _ rfl R8.out Tryd.underlying25 rfl hzZ.out _ _ rfl rfl, by rw [HB.out, HZ.out]; rfl, hb8⟩
  | true =>
    by_cases h32 : P.length < 32
    · have h32' : ((bstr P).size : Int) < 32 := by rw [hzP]; omega
      have HB := Lib.hid (HU.out.trans (if_neg (fun h => by have := h.2; omega)))
      go_wp2_with (have _t := R2; refine wpList_store_row rfl 25 (.tmp 4) (.tmp 23) rfl (w.heap.size + 1) Z.toArray rfl (by rw [HZe.out]; rfl) 25 Z.toArray R2.out hzZ.out rfl hZ1.out ?_; refine Hid.out ?_)
      refine Lib.hid ?_
      generalize hw8 : World.setRow _ _ _ = w8
      obtain ⟨r8, hg8⟩ := row_set (show Row w3 (w.heap.size + 1) 25 Z from R2.out) hw8
      have hb8 := hb3.grown hg8 hb3.size (fun k h => by cases h; omega)
      have R8 := Lib.hid (show w8.heap[w.heap.size + 1]? = some (.cells Z.toArray 25 (0, 0)) from r8)
      clear hw8 r8 R2 r2
      go_wp2_with fail
      exact ⟨rfl, _, results_row_tmp2 rfl _ _ (w.heap.size + 1) 25 Z.toArray (0, 0) _ rfl R8.out Tryd.underlying25 rfl hzZ.out _ _ rfl rfl, by rw [HB.out, HZ.out]; rfl, hb8⟩
    · have h32' : ¬ ((bstr P).size : Int) < 32 := by rw [hzP]; omega
      have h32 : 32 ≤ P.length := by omega
      have hN := List.length_take_of_le h32
      have hN32 := Lib.hid hN
      have hx1 : (bstr P).extract 0 32 = bstr (P.take 32) := by rw [extract_bstr]; rfl
      have hx2 : (bstr P).extract 32 (bstr P).size = bstr (P.drop 32) := by rw [extract_bstr, hzP, List.take_of_length_le (by rw [List.length_drop]; exact Nat.le_refl _)]
      obtain ⟨V, hV⟩ : ∃ V, V = byts (P.take 32) := ⟨_, rfl⟩
      have hVl : V.length = 32 := by rw [hV]; exact tag_fit _ hN
      have hone := Lib.hid (show ∀ v ∈ V, v.oneCell' = true by rw [hV]; exact byts_one _)
      have hszl := Lib.hid (show (Tryd.prog.info? 25).map (·.size) = some V.length by rw [size_tag, hVl])
      have hsz2 := Lib.hid (show (Tryd.prog.info? 25).map (·.size) = some V.toArray.size by rw [size_tag, List.size_toArray, hVl])
      have hfit := Lib.hid (show 0 + V.length ≤ Z.length by rw [hVl, HZe.out]; decide)
      have HVr := Lib.hid (show splice Z 0 V = V by
        unfold splice
        rw [List.take_zero, List.nil_append, Nat.zero_add, hVl, List.drop_eq_nil_of_le (by rw [HZe.out]; decide), List.append_nil])
      have HV := Lib.hid hV
      have HB := Lib.hid (HU.out.trans (if_pos ⟨rfl, h32⟩))
      have hlt2 := Lib.hid r2.lt
      clear hVl hN
      have h32i : (32 : Int) ≤ ((bstr P).size : Int) := by rw [hzP]; omega
      have htag := Lib.hid (show ∀ A c w1, Sl w1 A c (byts (P.take 32)) → Calls Tryd.prog 25 #[.slice A 32 c] w1 fun e w' => e = .returned (.tuple #[.agg V.toArray, .bool true]) ∧ Below w1.heap.size w1 w' from fun A c w1 h => by
        have h1 := tof_any A 32 c (P.take 32) w1 h hN32.out.symm
        unfold tagV ofT at h1
        rw [if_pos hN32.out, decide_eq_true hN32.out, ← HV.out] at h1
        exact h1)
      have HVs := Lib.hid (show splice V 0 V = V by
        unfold splice
        rw [List.take_zero, List.nil_append, Nat.zero_add, List.drop_eq_nil_of_le (Nat.le_refl _), List.append_nil])
      have hsZV := Lib.hid (show Z.toArray.size = V.toArray.size by rw [HZe.out]; exact (Option.some.inj (hsz2.out.symm.trans size_tag)).symm)
      clear HU hzP hV
      go_wp2_with (first
        | (refine wpList_conv_string rfl (.tmp 26) rfl (P.take 32) rfl ?_; intro A2 c2 w4 s2 hq; rw [hN32.out]; have r2 := r2.later hq r2.lt; have hb4 := hb3.trans (hq.mono hb3.size); clear hq)
        | (go_at_call 25; refine (htag.out A2 c2 w4 s2).mono ?_; rintro e w5 ⟨rfl, hq⟩; have r2 := r2.later hq r2.lt; have hb5 := hb4.trans (hq.mono hb4.size); have R5 := Lib.hid (show w5.heap[w.heap.size + 1]? = some (.cells Z.toArray 25 (0, 0)) from r2); clear hq)
        | (have _t := R5; refine wpList_store_row rfl 25 (.tmp 4) (.tmp 29) rfl (w.heap.size + 1) V.toArray rfl rfl 25 Z.toArray R5.out hsz2.out (hsZV.out) (all_one hone.out) ?_; refine Hid.out ?_))
      refine Lib.hid ?_
      generalize hw6 : World.setRow _ _ _ = w6
      obtain ⟨r6, hg6⟩ := row_set (show Row w5 (w.heap.size + 1) 25 Z from R5.out) hw6
      have hb6 := hb5.grown hg6 hb5.size (fun k h => by cases h; omega)
      clear hw6 hg6 R5 r2 hb5 hb4 hb3 s2 R2
      go_upto_region 5 with fail
      refine wp_region_noPanic ?_
      refine wp_region_held_drew (S := fun w' => Row w' (w.heap.size + 1) 25 V) (by kernel_rfl) (r6.later ((Below.refl _ _).drew) r6.lt) (fun hHeld => ?_)
      have hB : Below w6.heap.size w6 w6.drew := (Below.refl _ _).drew
      refine rt 0 31 hHeld ?_ (hy := by intro w hS; exact run_load_op 25 (.tmp 4) rfl _ 0 rfl V _ (row_range hS) Tryd.underlying25 rfl hszl.out)
      refine rt 1 32 hHeld ?_
      refine rt 2 33 hHeld ?_ (hy := by intro w hS; have h1 := hx2; have h2 := h32i; go_simp; try with_reducible rfl)
      refine rt 3 34 hHeld ?_
      refine rc1 4 fun K hK => ?_
      refine step_store_row none rfl (by rfl) 25 (.tmp 4) (.tmp 31) rfl _ 0 25 _ V rfl rfl hHeld (by rw [Nat.zero_add]; exact Nat.le_refl _) hszl.out hone.out ?_; intro wf rf hgf; rw [HVs.out] at rf; have hBz := hB
      refine hK.out _ _ rf (fun hHeld => ?_)
      clear hK K
      rw [put_none]
      refine rt 5 5 hHeld ?_
      refine rt 6 6 hHeld ?_
      refine wpAnyH_done (by kernel_rfl) ?_ _
      refine NoPanic.normal ?_
      have hb9 := (hb6.trans (hBz.mono hb6.size)).grown hgf (Nat.le_trans hb6.size hBz.size) (fun k h => by cases h; omega)
      have R9 := Lib.hid (show wf.heap[w.heap.size + 1]? = some (.cells V.toArray 25 (0, 0)) from rf)
      clear hgf rf hBz hHeld
      go_wp2_with fail
      exact ⟨rfl, _, results_row_tmp2 rfl _ _ (w.heap.size + 1) 25 V.toArray (0, 0) _ rfl R9.out Tryd.underlying25 rfl hsz2.out _ _ rfl rfl, by first | (rw [HB.out, HV.out]; rfl) | (rw [HV.out]; rfl), hb9⟩
set_option maxHeartbeats 4000000 in
theorem preveal20_T (key s : List UInt8) (hk : key.length = 32) (hs : s.length ≤ 100000) (w : World) (hT : Tabs w) :
    Calls Tryd.prog 12 #[.agg (byts key).toArray, .string (bstr s)] w fun e w' => e = .returned (.tuple #[.agg (byts (revealL key s).1).toArray, .bool (revealL key s).2]) ∧ Below w.heap.size w w' := by
  have hkz := Lib.hid (show (Tryd.prog.info? 25).map (·.size) = some (byts key).toArray.size by rw [List.size_toArray, tag_fit key hk]; exact size_tag)
  obtain ⟨Z, hZ⟩ : ∃ Z, Z = byts zero32 := ⟨_, rfl⟩
  have hZe : Z = List.replicate 32 (Value.int .u8 0) := by rw [hZ]; rfl
  have hzZ := Lib.hid (show (Tryd.prog.info? 25).map (·.size) = some Z.toArray.size by rw [hZe]; exact size_tag)
  have hZ1 := Lib.hid (show Z.toArray.all (·.oneCell') = true by rw [hZ]; exact all_one (byts_one _))
  have HZ := Lib.hid hZ
  have HZe := Lib.hid hZe
  have hky := Lib.hid (fun w' (h : Tabs w') => dkey_any key hk vaultU none 0 0 [] w' h ⟨.inl rfl, Nat.le_refl _, fun _ => rfl⟩ rfl (by show (5 + 1) + 0 ≤ _; decide))
  have hop := Lib.hid (fun w' (h : Tabs w') => dopen_any (keyD key vaultU []) (length_keyD _ _ _) s (by omega) w' h)
  have hPl := openL_len (keyD key vaultU []) s
  have HU : revealL key s = if (openL (keyD key vaultU []) s).2 = true ∧ (openL (keyD key vaultU []) s).1.length = 32 then ((openL (keyD key vaultU []) s).1, true) else (zero32, false) := rfl
  unfold openV at hop
  generalize keyD key vaultU [] = kd at *
  obtain ⟨⟨P, ok⟩, hO⟩ : ∃ O, O = openL kd s := ⟨_, rfl⟩
  rw [← hO] at hop hPl HU
  have HU := Lib.hid HU
  clear hO hk hZ hZe
  have hPl : P.length ≤ s.length := hPl
  have hzP := size_bstr P
  have hRl := Lib.hid (length_revealL key s)
  generalize revealL key s = R at *
  go_enter Tryd.func12, Tryd.ntmps12
  go_upto_region 1 with fail
  generalize hw1 : World.alloc (World.alloc _ _) _ = w1
  obtain ⟨r1, r2, hb1⟩ := two_rows19 (B := List.replicate 32 (Value.int .u8 0)) hw1
  rw [← HZe.out] at r2
  have R1 := Lib.hid (show w1.heap[w.heap.size]? = some (.cells (byts key).toArray 25 (0, 0)) from r1)
  clear hw1 r1
  go_wp2_with (first
    | (with_reducible refine wpList_load_row rfl 25 (.tmp 2) rfl w.heap.size rfl 25 (byts key).toArray (0, 0) _ R1.out Tryd.underlying25 rfl hkz.out ?_)
    | (go_at_call 24; refine (hky.out _ (hT.later hb1 (Nat.le_refl _))).mono ?_; rintro e w2 ⟨rfl, hq⟩; have r2 := r2.later hq r2.lt; have hb2 := hb1.trans (hq.mono hb1.size); clear hq)
    | (go_at_call 23; refine (hop.out _ (hT.later hb2 (Nat.le_refl _))).mono ?_; rintro e w3 ⟨rfl, hq⟩; have r2 := r2.later hq r2.lt; have hb3 := hb2.trans (hq.mono hb2.size); clear hq; refine Hid.out ?_))
  refine Lib.hid ?_
  clear hb1 hb2 R1 hky hop hkz
  have R2 := Lib.hid (show w3.heap[w.heap.size + 1]? = some (.cells Z.toArray 25 (0, 0)) from r2)
  cases ok with
  | false =>
    have HB := Lib.hid (HU.out.trans (if_neg (fun h => by cases h.1)))
    go_wp2_with (have _t := R2; refine wpList_store_row rfl 25 (.tmp 4) (.tmp 17) rfl (w.heap.size + 1) Z.toArray rfl (by rw [HZe.out]; rfl) 25 Z.toArray R2.out hzZ.out rfl hZ1.out ?_; refine Hid.out ?_)
    refine Lib.hid ?_
    generalize hw8 : World.setRow _ _ _ = w8
    obtain ⟨r8, hg8⟩ := row_set (show Row w3 (w.heap.size + 1) 25 Z from R2.out) hw8
    have hb8 := hb3.grown hg8 hb3.size (fun k h => by cases h; omega)
    have R8 := Lib.hid (show w8.heap[w.heap.size + 1]? = some (.cells Z.toArray 25 (0, 0)) from r8)
    clear hw8 r8 R2 r2
    go_wp2_with fail
    exact ⟨rfl, _, results_row_tmp rfl _ _ (w.heap.size + 1) 25 Z.toArray (0, 0) _ rfl R8.out Tryd.underlying25 rfl hzZ.out _ rfl, by rw [HB.out, HZ.out]; rfl, hb8⟩
  | true =>
    obtain ⟨V, hV⟩ : ∃ V, V = byts R.1 := ⟨_, rfl⟩
    have hVl : V.length = 32 := by rw [hV]; exact tag_fit _ hRl.out
    have hone := Lib.hid (show ∀ v ∈ V, v.oneCell' = true by rw [hV]; exact byts_one _)
    have hsz2 := Lib.hid (show (Tryd.prog.info? 25).map (·.size) = some V.toArray.size by rw [size_tag, List.size_toArray, hVl])
    have hsZV := Lib.hid (show Z.toArray.size = V.toArray.size by rw [HZe.out]; exact (Option.some.inj (hsz2.out.symm.trans size_tag)).symm)
    have HV := Lib.hid hV
    have htag := Lib.hid (show ∀ A c w1, Sl w1 A c (byts P) → Calls Tryd.prog 25 #[.slice A P.length c] w1 fun e w' => e = .returned (.tuple #[.agg V.toArray, .bool R.2]) ∧ Below w1.heap.size w1 w' from fun A c w1 h => by
      have h1 := tof_any A P.length c P w1 h rfl
      unfold tagV ofT at h1
      have hU : R = if true = true ∧ P.length = 32 then (P, true) else (zero32, false) := HU.out
      rw [HV.out, hU]
      by_cases h32 : P.length = 32
      · rw [if_pos ⟨rfl, h32⟩]
        rw [if_pos h32, decide_eq_true h32] at h1
        exact h1
      · rw [if_neg (fun h => h32 h.2)]
        rw [if_neg h32, decide_eq_false h32] at h1
        exact h1)
    clear HU hzP hV hVl hRl
    obtain ⟨r, hr⟩ : ∃ r, r = R.2 := ⟨_, rfl⟩
    rw [← hr] at htag
    have HR := Lib.hid hr
    clear hr
    go_wp2_with (first
      | (refine wpList_conv_string rfl (.tmp 18) rfl P rfl ?_; intro A2 c2 w4 s2 hq; have r2 := r2.later hq r2.lt; have hb4 := hb3.trans (hq.mono hb3.size); clear hq)
      | (go_at_call 25; refine (htag.out A2 c2 w4 s2).mono ?_; rintro e w5 ⟨rfl, hq⟩; have r2 := r2.later hq r2.lt; have hb5 := hb4.trans (hq.mono hb4.size); have R5 := Lib.hid (show w5.heap[w.heap.size + 1]? = some (.cells Z.toArray 25 (0, 0)) from r2); clear hq)
      | (have _t := R5; refine wpList_store_row rfl 25 (.tmp 4) (.tmp 21) rfl (w.heap.size + 1) V.toArray rfl rfl 25 Z.toArray R5.out hsz2.out (hsZV.out) (all_one hone.out) ?_; refine Hid.out ?_))
    refine Lib.hid ?_
    generalize hw8 : World.setRow _ _ _ = w8
    obtain ⟨r8, hg8⟩ := row_set (show Row w5 (w.heap.size + 1) 25 Z from R5.out) hw8
    have hb8 := hb5.grown hg8 hb5.size (fun k h => by cases h; omega)
    have R8 := Lib.hid (show w8.heap[w.heap.size + 1]? = some (.cells V.toArray 25 (0, 0)) from r8)
    clear hw8 r8 R5 r2 R2
    go_wp2_with fail
    exact ⟨rfl, _, results_row_tmp rfl _ _ (w.heap.size + 1) 25 V.toArray (0, 0) _ rfl R8.out Tryd.underlying25 rfl hsz2.out _ rfl, by rw [HR.out, HV.out]; rfl, hb8⟩
end Go.Proofs.YtcbilopdeiapjaaDoor

/- LAYER 20: the document's Lock, Hide. -/
namespace Go.Proofs.YtcbilopdeiapjaaDoor
set_option maxRecDepth 100000
open Go Go.RowKit

/-- An array in a block of its own, as a slice. -/
theorem sl_arr {w : World} {g : Nat} {l : List UInt8} (h : Row w g 25 (byts l)) (hl : l.length = 32) : Sl w (some ⟨g, 0, none⟩) 32 (byts l) :=
  ⟨Rd.row (ys := []) (by rw [List.append_nil]; exact h), by rw [length_byts, hl]; exact Nat.le_refl _, fun h => by cases h⟩
set_option maxHeartbeats 4000000 in
theorem rlock_any (key nonce root cond : List UInt8) (hk : key.length = 32) (hn : nonce.length = 32) (hr : root.length = 32) (hc : cond.length ≤ 10000) (w : World) :
    Calls Tryd.prog 15 #[.agg (byts key).toArray, .agg (byts nonce).toArray, .agg (byts root).toArray, .string (bstr cond)] w fun e w' => e = .returned (.string (bstr (lockL key nonce root cond))) ∧ Below w.heap.size w w' := by
  have hkz := Lib.hid (show (Tryd.prog.info? 25).map (·.size) = some (byts key).length by rw [tag_fit key hk]; exact size_tag)
  have hnz := Lib.hid (show (Tryd.prog.info? 25).map (·.size) = some (byts nonce).length by rw [tag_fit nonce hn]; exact size_tag)
  have HA := Lib.hid (show bstr root ++ bstr cond = bstr (root ++ cond) from bstr_append _ _)
  have hsz := Lib.hid (show ¬ 9223372036854775807 < (bstr root).size + (bstr cond).size by rw [size_bstr, size_bstr, hr]; omega)
  have hky := Lib.hid (fun w' => rkey_any key hk partyU none 0 0 [] w' ⟨.inl rfl, Nat.le_refl _, fun _ => rfl⟩ rfl (by show (5 + 1) + 0 ≤ _; decide))
  have hse := Lib.hid (fun w' => rseal_any (keyD key partyU []) nonce (length_keyD _ _ _) hn (root ++ cond) (by rw [List.length_append, hr]; omega) w')
  rw [show sealL (keyD key partyU []) nonce (root ++ cond) = lockL key nonce root cond from rfl] at hse
  generalize keyD key partyU [] = kd at *
  generalize lockL key nonce root cond = LK at *
  clear hk hn hc
  go_enter Tryd.func15, Tryd.ntmps15
  go_upto_region 1 with fail
  generalize hw1 : World.alloc (World.alloc (World.alloc _ _) _) _ = w1
  obtain ⟨r1, r2, r3, hb1, -⟩ := rows3 hw1
  clear hw1
  have hcv := conv_later (sl_arr r3 hr) 32 hr.symm
  clear hr
  refine wp_region_noPanic ?_
  refine wp_region_held_drew (S := fun w' => Below w1.heap.size w1 w') (by kernel_rfl) ((Below.refl _ _).drew) (fun hHeld => ?_)
  have hB : Below w1.heap.size w1 w1.drew := (Below.refl _ _).drew
  refine rt 0 9 hHeld ?_ (hy := by intro w hS; exact run_load_op 25 (.tmp 4) rfl _ 0 rfl (byts key) _ (row_range (r1.later hS r1.lt)) Tryd.underlying25 rfl hkz.out)
  refine rt 2 11 hHeld ?_ (hy := by intro w hS; exact run_load_op 25 (.tmp 5) rfl _ 0 rfl (byts nonce) _ (row_range (r2.later hS r2.lt)) Tryd.underlying25 rfl hnz.out)
  refine rt 3 12 hHeld ?_
  refine rt 4 13 hHeld ?_ (hy := by intro w hS; have h1 := hcv w hS; go_simp; try with_reducible rfl)
  refine rt 5 14 hHeld ?_
  refine rt 6 15 hHeld ?_ (hy := by intro w hS; have h1 := hsz.out; have h2 := HA.out; go_simp; try with_reducible rfl)
  refine rc1 1 fun K hK => ?_
  go_simp
  refine (hky.out _).mono ?_; rintro e ww11 ⟨rfl, hqw11⟩
  try go_wp2_with fail
  refine hK.out _ _ (hHeld.trans (hqw11.mono hHeld.size)) (fun hHeld => ?_)
  clear hK K
  have hB := below_step hB hqw11
  have hB1 : Below ww11.heap.size ww11 ww11 := Below.refl _ _
  refine rc1 7 fun K hK => ?_
  go_simp
  refine (hse.out _).mono ?_; rintro e ww17 ⟨rfl, hqw17⟩
  try go_wp2_with fail
  refine hK.out _ _ (hHeld.trans (hqw17.mono hHeld.size)) (fun hHeld => ?_)
  clear hK K
  have hB := below_step hB hqw17
  have hB1 := below_step hB1 hqw17
  have hB7 : Below ww17.heap.size ww17 ww17 := Below.refl _ _
  refine rt 8 8 hHeld ?_
  refine wpAnyH_done (by kernel_rfl) ?_ _
  refine NoPanic.normal ?_
  have hbz := hb1.trans (hB.mono hb1.size)
  clear hB hHeld
  go_wp2_with fail
  go_ret
  exact ⟨rfl, hbz⟩
set_option maxHeartbeats 4000000 in
theorem rhide_any (key nonce root : List UInt8) (hk : key.length = 32) (hn : nonce.length = 32) (hr : root.length = 32) (w : World) :
    Calls Tryd.prog 17 #[.agg (byts key).toArray, .agg (byts nonce).toArray, .agg (byts root).toArray] w fun e w' => e = .returned (.string (bstr (hideL key nonce root))) ∧ Below w.heap.size w w' := by
  have hkz := Lib.hid (show (Tryd.prog.info? 25).map (·.size) = some (byts key).length by rw [tag_fit key hk]; exact size_tag)
  have hnz := Lib.hid (show (Tryd.prog.info? 25).map (·.size) = some (byts nonce).length by rw [tag_fit nonce hn]; exact size_tag)
  have hky := Lib.hid (fun w' => rkey_any key hk vaultU none 0 0 [] w' ⟨.inl rfl, Nat.le_refl _, fun _ => rfl⟩ rfl (by show (5 + 1) + 0 ≤ _; decide))
  have hse := Lib.hid (fun w' => rseal_any (keyD key vaultU []) nonce (length_keyD _ _ _) hn root (by omega) w')
  rw [show sealL (keyD key vaultU []) nonce root = hideL key nonce root from rfl] at hse
  generalize keyD key vaultU [] = kd at *
  generalize hideL key nonce root = LK at *
  clear hk hn
  go_enter Tryd.func17, Tryd.ntmps17
  go_upto_region 1 with fail
  generalize hw1 : World.alloc (World.alloc (World.alloc _ _) _) _ = w1
  obtain ⟨r1, r2, r3, hb1, -⟩ := rows3 hw1
  clear hw1
  have hcv := conv_later (sl_arr r3 hr) 32 hr.symm
  clear hr
  refine wp_region_noPanic ?_
  refine wp_region_held_drew (S := fun w' => Below w1.heap.size w1 w') (by kernel_rfl) ((Below.refl _ _).drew) (fun hHeld => ?_)
  have hB : Below w1.heap.size w1 w1.drew := (Below.refl _ _).drew
  refine rt 0 7 hHeld ?_ (hy := by intro w hS; exact run_load_op 25 (.tmp 3) rfl _ 0 rfl (byts key) _ (row_range (r1.later hS r1.lt)) Tryd.underlying25 rfl hkz.out)
  refine rt 2 9 hHeld ?_ (hy := by intro w hS; exact run_load_op 25 (.tmp 4) rfl _ 0 rfl (byts nonce) _ (row_range (r2.later hS r2.lt)) Tryd.underlying25 rfl hnz.out)
  refine rt 3 10 hHeld ?_
  refine rt 4 11 hHeld ?_ (hy := by intro w hS; have h1 := hcv w hS; go_simp; try with_reducible rfl)
  refine rc1 1 fun K hK => ?_
  go_simp
  refine (hky.out _).mono ?_; rintro e ww11 ⟨rfl, hqw11⟩
  try go_wp2_with fail
  refine hK.out _ _ (hHeld.trans (hqw11.mono hHeld.size)) (fun hHeld => ?_)
  clear hK K
  have hB := below_step hB hqw11
  have hB1 : Below ww11.heap.size ww11 ww11 := Below.refl _ _
  refine rc1 5 fun K hK => ?_
  go_simp
  refine (hse.out _).mono ?_; rintro e ww15 ⟨rfl, hqw15⟩
  try go_wp2_with fail
  refine hK.out _ _ (hHeld.trans (hqw15.mono hHeld.size)) (fun hHeld => ?_)
  clear hK K
  have hB := below_step hB hqw15
  have hB1 := below_step hB1 hqw15
  have hB5 : Below ww15.heap.size ww15 ww15 := Below.refl _ _
  refine rt 6 6 hHeld ?_
  refine wpAnyH_done (by kernel_rfl) ?_ _
  refine NoPanic.normal ?_
  have hbz := hb1.trans (hB.mono hb1.size)
  clear hB hHeld
  go_wp2_with fail
  go_ret
  exact ⟨rfl, hbz⟩
end Go.Proofs.YtcbilopdeiapjaaDoor

/- LAYER 10: the document's bytes of a token. -/
namespace Go.Proofs.YtcbilopdeiapjaaDoor
set_option maxRecDepth 100000
open Go Go.RowKit

theorem cavF_len (c : Cav) : (cavF c).length ≤ 3 := by unfold cavF; split <;> simp
theorem fieldsL_len (n : Nat) : ∀ (fs : List Fd), (∀ f ∈ fs, f.2.length ≤ n) → (joinL fs).length ≤ fs.length * (n + 11)
  | [], _ => by simp [joinL]
  | f :: fs, h => by
    have h1 := fieldsL_len n fs (fun g hg => h g (List.mem_cons_of_mem _ hg))
    have h2 := h f List.mem_cons_self
    have h3 := length_fieldL f
    have h4 := length_varL f.2.length
    have e : joinL (f :: fs) = fieldL f ++ joinL fs := by unfold joinL; rw [List.flatMap_cons]
    rw [e, List.length_append, List.length_cons, Nat.succ_mul]; omega
end Go.Proofs.YtcbilopdeiapjaaDoor

/- LAYER 10: what a Decode's walk shares. -/
namespace Go.Proofs.YtcbilopdeiapjaaDoor
set_option maxRecDepth 100000
open Go Go.RowKit

theorem infoCav : (Tryd.prog.info? 48).map (fun i => (i.zero, i.size, i.bytes)) = some (some (.agg (cavV ⟨false, [], 0, [], []⟩).toArray), 5, 64) := by kernel_rfl
theorem info_cav : ∃ i, Tryd.prog.info? 48 = some i ∧ i.zero = some (.agg (cavV ⟨false, [], 0, [], []⟩).toArray) ∧ i.size = 5 ∧ i.bytes = 64 := by
  have h := infoCav
  cases hq : Tryd.prog.info? 48 with
  | none => rw [hq] at h; cases h
  | some i =>
    rw [hq] at h
    simp only [Option.map_some, Option.some.injEq, Prod.mk.injEq] at h
    exact ⟨i, rfl, h.1, h.2.1, h.2.2⟩
theorem Row.kept {w w' : World} {g t : Nat} {xs : List Value} {row : Option Nat} (h : Row w g t xs) (hg : w.grownBy w' row) (hne : ∀ k, row = some k → g ≠ k) : Row w' g t xs := by
  have hl := h.lt
  unfold Row at h ⊢
  rw [hg.block g hl (fun e => hne g e.symm rfl)]; exact h
section
variable {wL w : World} {g : Nat} {t : Tok} {A : Option Addr} {c : Nat}
end
theorem ztok : tokV zeroK none 0 = [Value.int .u64 0, .string { data := #[] }, .slice none 0 0, .bool false, .int .u8 0, .int .u8 0, .int .u8 0, .int .u8 0, .int .u8 0, .int .u8 0, .int .u8 0, .int .u8 0, .int .u8 0, .int .u8 0, .int .u8 0, .int .u8 0, .int .u8 0, .int .u8 0, .int .u8 0, .int .u8 0, .int .u8 0, .int .u8 0, .int .u8 0, .int .u8 0, .int .u8 0, .int .u8 0, .int .u8 0, .int .u8 0, .int .u8 0, .int .u8 0, .int .u8 0, .int .u8 0, .int .u8 0, .int .u8 0, .int .u8 0, .int .u8 0] := by kernel_rfl
end Go.Proofs.YtcbilopdeiapjaaDoor

/- LAYER 19: the document's Mint; a call that answers a token and a number. -/
namespace Go.Proofs.YtcbilopdeiapjaaDoor
set_option maxRecDepth 100000
open Go Go.RowKit

/-- The call gave a token and a number, and nothing that was there has turned. -/
def GaveTok (u : Tok) (n : Int) (w : World) (e : Ending) (w' : World) : Prop :=
  ∃ (A : Option Addr) (c : Nat), e = .returned (.tuple #[.agg (tokV u A c).toArray, .int .i64 n]) ∧ Sl w' A (c * 5) (u.cavs.flatMap cavV) ∧ (∀ a, A = some a → w.heap.size ≤ a.block) ∧ Below w.heap.size w w'
theorem sl_zeroK (w : World) : Sl w none (0 * 5) (zeroK.cavs.flatMap cavV) := ⟨.inl rfl, Nat.le_refl _, fun _ => rfl⟩
end Go.Proofs.YtcbilopdeiapjaaDoor

/- LAYER 19: the document's Add. -/
namespace Go.Proofs.YtcbilopdeiapjaaDoor
set_option maxRecDepth 100000
open Go Go.RowKit

theorem slice_oneC (c : Cav) (w : World) : (Instr.buildSlice 23 1 #[(0, .agg (cavV c).toArray)]).run Tryd.prog w = .ok (.slice (some ⟨w.heap.size, 0, none⟩) 1 1) (w.alloc (.cells (cavV c).toArray 48)) := by unfold cavV; go_simp
section
variable {w : World} {ops : Array Oper} {o : Oper} {a : Act} {K : Act → World → Prop} {Q : Exit → Act → World → Prop} {E : Prop}
end
theorem wpList_store_mid {P : Program} {ops : Array Oper} {rest : List Oper} {o : Oper} {a : Act} {w : World} {Q : Exit → Act → World → Prop} (hgd : o.guard = none) (ty : TypeId) (x y : Operand) (ho : o.op = .store ty x y)
    (g off : Nat) (t : TypeId) (cur cs : List Value) (hx : a.eval x = .pointer (some ⟨g, off, none⟩)) (hy : a.eval y = .agg cs.toArray) (hr : Row w g t cur) (hfit : off + cs.length ≤ cur.length) (hi : (P.info? ty).map (·.size) = some cs.length) (h1 : ∀ v ∈ cs, v.oneCell' = true)
    (h : ∀ w', Row w' g t (splice cur off cs) → w.grownBy w' (some g) → wpList P ops Q rest (a.put o.dst undef) w') : wpList P ops Q (o :: rest) a w := by
  refine wpList_plain hgd fun _ hK => ?_
  unfold Oper.wp execOp
  simp only [ho, hx, hy, run_store_row ty g off t cur cs hr hfit hi h1, Sem.run_bind, Sem.run_pure, Result.andThen_ok]
  exact hK _ _ (h _ (hr.setRow _) (grown_setRow _ _ _))
theorem tok_tag_range {w : World} {g : Nat} {u : TypeId} {t : Tok} {A : Option Addr} {c : Nat} (h : Row w g u (tokV t A c)) : w.rangeAt g 4 (byts t.tag) :=
  range_of_row (A := tokH t A c) (B := byts t.tag) (C := []) (by rw [List.append_nil]; exact h)
theorem tok_put_tag (t : Tok) (A : Option Addr) (c : Nat) (g : List UInt8) (ht : t.Ok) (hg : g.length = 32) : splice (tokV t A c) 4 (byts g) = tokV { t with tag := g } A c := by
  unfold splice tokV
  rw [show (tokH t A c ++ byts t.tag).take 4 = tokH t A c from rfl, length_byts, hg, List.drop_eq_nil_of_le (by rw [List.length_append, length_byts, ht.tag]; exact Nat.le_refl _), List.append_nil]; rfl
theorem cavV_one1 (c : Cav) : ∀ v ∈ cavV c, v.oneCell' = true := fun v hv => cavV_one [c] v (by simpa using hv)
theorem tok_more (t : Tok) (cv : Cav) (A B : Option Addr) (c d : Nat) : (tokV t A c).set 2 (.slice B (t.cavs.length + 1) d) = tokV { t with cavs := t.cavs ++ [cv] } B d := by
  unfold tokV tokH
  rw [show ({ t with cavs := t.cavs ++ [cv] } : Tok).cavs.length = t.cavs.length + 1 by simp]; rfl
theorem s6flat {w : World} {B : Option Addr} {d : Nat} {t : Tok} {cv : Cav} (h : Sl w B (d * 5) (t.cavs.flatMap cavV ++ cavV cv)) : Sl w B (d * 5) (({ t with cavs := t.cavs ++ [cv] } : Tok).cavs.flatMap cavV) := by
  show Sl w B (d * 5) ((t.cavs ++ [cv]).flatMap cavV)
  rw [List.flatMap_append, List.flatMap_cons, List.flatMap_nil, List.append_nil]; exact h
end Go.Proofs.YtcbilopdeiapjaaDoor

/- LAYER 20: the document's Caveat, Add. -/
namespace Go.Proofs.YtcbilopdeiapjaaDoor
set_option maxRecDepth 100000
open Go Go.RowKit

section
variable {w : World} {g u : Nat} {d : Deal}
theorem deal_party (h : Row w g u (dealV d)) : w.cell? ⟨g, 0, none⟩ = some (.int .u64 d.party) := by rw [h.cell]; rfl
theorem deal_key (h : Row w g u (dealV d)) : w.rangeAt g 1 (byts d.key) :=
  range_of_row (A := [Value.int .u64 (d.party : Int)]) (B := byts d.key) (C := byts d.root ++ ([Value.string (bstr d.cond)] ++ (byts d.ask ++ byts d.vault))) h
theorem deal_root (h : Row w g u (dealV d)) (hd : d.Ok) : w.rangeAt g 33 (byts d.root) := by
  have := range_of_row (w := w) (g := g) (A := [Value.int .u64 (d.party : Int)] ++ byts d.key) (B := byts d.root) (C := [Value.string (bstr d.cond)] ++ (byts d.ask ++ byts d.vault)) (by rw [List.append_assoc]; exact h)
  rwa [show ([Value.int .u64 (d.party : Int)] ++ byts d.key).length = 33 by rw [List.length_append, length_byts, hd.key]; rfl] at this
theorem deal_cond (h : Row w g u (dealV d)) (hd : d.Ok) : w.cell? ⟨g, 65, none⟩ = some (.string (bstr d.cond)) := by
  rw [h.cell]
  unfold dealV
  rw [List.getElem?_append_right (by show 1 ≤ 65; decide), List.getElem?_append_right (by rw [length_byts, hd.key]; show (32 : Nat) ≤ 64; decide), List.getElem?_append_right (by rw [length_byts, length_byts, hd.key, hd.root]; show (32 : Nat) ≤ 32; decide), length_byts, length_byts, hd.key, hd.root]
  rfl
theorem deal_ask (h : Row w g u (dealV d)) (hd : d.Ok) : w.rangeAt g 66 (byts d.ask) := by
  have := range_of_row (w := w) (g := g) (A := [Value.int .u64 (d.party : Int)] ++ (byts d.key ++ (byts d.root ++ [Value.string (bstr d.cond)]))) (B := byts d.ask) (C := byts d.vault) (by rw [List.append_assoc, List.append_assoc, List.append_assoc]; exact h)
  rwa [show ([Value.int .u64 (d.party : Int)] ++ (byts d.key ++ (byts d.root ++ [Value.string (bstr d.cond)]))).length = 66 by simp only [List.length_append, List.length_cons, List.length_nil, length_byts, hd.key, hd.root]] at this
theorem deal_vault (h : Row w g u (dealV d)) (hd : d.Ok) : w.rangeAt g 98 (byts d.vault) := by
  have := range_of_row (w := w) (g := g) (A := [Value.int .u64 (d.party : Int)] ++ (byts d.key ++ (byts d.root ++ ([Value.string (bstr d.cond)] ++ byts d.ask)))) (B := byts d.vault) (C := []) (by rw [List.append_nil, List.append_assoc, List.append_assoc, List.append_assoc, List.append_assoc]; exact h)
  rwa [show ([Value.int .u64 (d.party : Int)] ++ (byts d.key ++ (byts d.root ++ ([Value.string (bstr d.cond)] ++ byts d.ask)))).length = 98 by simp only [List.length_append, List.length_cons, List.length_nil, length_byts, hd.key, hd.root, hd.ask]] at this
end
theorem tagz {l : List UInt8} (h : l.length = 32) : (Tryd.prog.info? 25).map (·.size) = some (byts l).length := by rw [tag_fit l h]; exact size_tag
end Go.Proofs.YtcbilopdeiapjaaDoor

/- LAYER 20: package third: Lock, Hide. -/
namespace Go.Proofs.YtcbilopdeiapjaaDoor
set_option maxRecDepth 100000
open Go Go.RowKit

set_option maxHeartbeats 4000000 in
theorem plock20_T (key nonce root cond : List UInt8) (hk : key.length = 32) (hn : nonce.length = 32) (hr : root.length = 32) (hc : cond.length ≤ 10000) (w : World) (hT : Tabs w) :
    Calls Tryd.prog 14 #[.agg (byts key).toArray, .agg (byts nonce).toArray, .agg (byts root).toArray, .string (bstr cond)] w fun e w' => e = .returned (.string (bstr (lockL key nonce root cond))) ∧ Below w.heap.size w w' := by
  have hkz := Lib.hid (show (Tryd.prog.info? 25).map (·.size) = some (byts key).length by rw [tag_fit key hk]; exact size_tag)
  have hnz := Lib.hid (show (Tryd.prog.info? 25).map (·.size) = some (byts nonce).length by rw [tag_fit nonce hn]; exact size_tag)
  have HA := Lib.hid (show bstr root ++ bstr cond = bstr (root ++ cond) from bstr_append _ _)
  have hsz := Lib.hid (show ¬ 9223372036854775807 < (bstr root).size + (bstr cond).size by rw [size_bstr, size_bstr, hr]; omega)
  have hky := Lib.hid (fun w' (h : Tabs w') => dkey_any key hk partyU none 0 0 [] w' h ⟨.inl rfl, Nat.le_refl _, fun _ => rfl⟩ rfl (by show (5 + 1) + 0 ≤ _; decide))
  have hse := Lib.hid (fun w' (h : Tabs w') => dseal_any (keyD key partyU []) nonce (length_keyD _ _ _) hn (root ++ cond) (by rw [List.length_append, hr]; omega) w' h)
  rw [show sealL (keyD key partyU []) nonce (root ++ cond) = lockL key nonce root cond from rfl] at hse
  generalize keyD key partyU [] = kd at *
  generalize lockL key nonce root cond = LK at *
  clear hk hn hc
  go_enter Tryd.func14, Tryd.ntmps14
  go_upto_region 1 with fail
  generalize hw1 : World.alloc (World.alloc (World.alloc _ _) _) _ = w1
  obtain ⟨r1, r2, r3, hb1, -⟩ := rows3 hw1
  clear hw1
  have hcv := conv_later (sl_arr r3 hr) 32 hr.symm
  clear hr
  refine wp_region_noPanic ?_
  refine wp_region_held_drew (S := fun w' => Below w1.heap.size w1 w') (by kernel_rfl) ((Below.refl _ _).drew) (fun hHeld => ?_)
  have hB : Below w1.heap.size w1 w1.drew := (Below.refl _ _).drew
  refine rt 0 9 hHeld ?_ (hy := by intro w hS; exact run_load_op 25 (.tmp 4) rfl _ 0 rfl (byts key) _ (row_range (r1.later hS r1.lt)) Tryd.underlying25 rfl hkz.out)
  refine rt 2 11 hHeld ?_ (hy := by intro w hS; exact run_load_op 25 (.tmp 5) rfl _ 0 rfl (byts nonce) _ (row_range (r2.later hS r2.lt)) Tryd.underlying25 rfl hnz.out)
  refine rt 3 12 hHeld ?_
  refine rt 4 13 hHeld ?_ (hy := by intro w hS; have h1 := hcv w hS; go_simp; try with_reducible rfl)
  refine rt 5 14 hHeld ?_
  refine rt 6 15 hHeld ?_ (hy := by intro w hS; have h1 := hsz.out; have h2 := HA.out; go_simp; try with_reducible rfl)
  refine rc1 1 fun K hK => ?_
  go_simp
  refine (hky.out _ (hT.later (hb1.trans (hB.mono hb1.size)) (Nat.le_refl _))).mono ?_; rintro e ww11 ⟨rfl, hqw11⟩
  try go_wp2_with fail
  refine hK.out _ _ (hHeld.trans (hqw11.mono hHeld.size)) (fun hHeld => ?_)
  clear hK K
  have hB := below_step hB hqw11
  have hB1 : Below ww11.heap.size ww11 ww11 := Below.refl _ _
  refine rc1 7 fun K hK => ?_
  go_simp
  refine (hse.out _ (hT.later (hb1.trans (hB.mono hb1.size)) (Nat.le_refl _))).mono ?_; rintro e ww17 ⟨rfl, hqw17⟩
  try go_wp2_with fail
  refine hK.out _ _ (hHeld.trans (hqw17.mono hHeld.size)) (fun hHeld => ?_)
  clear hK K
  have hB := below_step hB hqw17
  have hB1 := below_step hB1 hqw17
  have hB7 : Below ww17.heap.size ww17 ww17 := Below.refl _ _
  refine rt 8 8 hHeld ?_
  refine wpAnyH_done (by kernel_rfl) ?_ _
  refine NoPanic.normal ?_
  have hbz := hb1.trans (hB.mono hb1.size)
  clear hB hHeld
  go_wp2_with fail
  go_ret
  exact ⟨rfl, hbz⟩
set_option maxHeartbeats 4000000 in
theorem phide20_T (key nonce root : List UInt8) (hk : key.length = 32) (hn : nonce.length = 32) (hr : root.length = 32) (w : World) (hT : Tabs w) :
    Calls Tryd.prog 16 #[.agg (byts key).toArray, .agg (byts nonce).toArray, .agg (byts root).toArray] w fun e w' => e = .returned (.string (bstr (hideL key nonce root))) ∧ Below w.heap.size w w' := by
  have hkz := Lib.hid (show (Tryd.prog.info? 25).map (·.size) = some (byts key).length by rw [tag_fit key hk]; exact size_tag)
  have hnz := Lib.hid (show (Tryd.prog.info? 25).map (·.size) = some (byts nonce).length by rw [tag_fit nonce hn]; exact size_tag)
  have hky := Lib.hid (fun w' (h : Tabs w') => dkey_any key hk vaultU none 0 0 [] w' h ⟨.inl rfl, Nat.le_refl _, fun _ => rfl⟩ rfl (by show (5 + 1) + 0 ≤ _; decide))
  have hse := Lib.hid (fun w' (h : Tabs w') => dseal_any (keyD key vaultU []) nonce (length_keyD _ _ _) hn root (by omega) w' h)
  rw [show sealL (keyD key vaultU []) nonce root = hideL key nonce root from rfl] at hse
  generalize keyD key vaultU [] = kd at *
  generalize hideL key nonce root = LK at *
  clear hk hn
  go_enter Tryd.func16, Tryd.ntmps16
  go_upto_region 1 with fail
  generalize hw1 : World.alloc (World.alloc (World.alloc _ _) _) _ = w1
  obtain ⟨r1, r2, r3, hb1, -⟩ := rows3 hw1
  clear hw1
  have hcv := conv_later (sl_arr r3 hr) 32 hr.symm
  clear hr
  refine wp_region_noPanic ?_
  refine wp_region_held_drew (S := fun w' => Below w1.heap.size w1 w') (by kernel_rfl) ((Below.refl _ _).drew) (fun hHeld => ?_)
  have hB : Below w1.heap.size w1 w1.drew := (Below.refl _ _).drew
  refine rt 0 7 hHeld ?_ (hy := by intro w hS; exact run_load_op 25 (.tmp 3) rfl _ 0 rfl (byts key) _ (row_range (r1.later hS r1.lt)) Tryd.underlying25 rfl hkz.out)
  refine rt 2 9 hHeld ?_ (hy := by intro w hS; exact run_load_op 25 (.tmp 4) rfl _ 0 rfl (byts nonce) _ (row_range (r2.later hS r2.lt)) Tryd.underlying25 rfl hnz.out)
  refine rt 3 10 hHeld ?_
  refine rt 4 11 hHeld ?_ (hy := by intro w hS; have h1 := hcv w hS; go_simp; try with_reducible rfl)
  refine rc1 1 fun K hK => ?_
  go_simp
  refine (hky.out _ (hT.later (hb1.trans (hB.mono hb1.size)) (Nat.le_refl _))).mono ?_; rintro e ww11 ⟨rfl, hqw11⟩
  try go_wp2_with fail
  refine hK.out _ _ (hHeld.trans (hqw11.mono hHeld.size)) (fun hHeld => ?_)
  clear hK K
  have hB := below_step hB hqw11
  have hB1 : Below ww11.heap.size ww11 ww11 := Below.refl _ _
  refine rc1 5 fun K hK => ?_
  go_simp
  refine (hse.out _ (hT.later (hb1.trans (hB.mono hb1.size)) (Nat.le_refl _))).mono ?_; rintro e ww15 ⟨rfl, hqw15⟩
  try go_wp2_with fail
  refine hK.out _ _ (hHeld.trans (hqw15.mono hHeld.size)) (fun hHeld => ?_)
  clear hK K
  have hB := below_step hB hqw15
  have hB1 := below_step hB1 hqw15
  have hB5 : Below ww15.heap.size ww15 ww15 := Below.refl _ _
  refine rt 6 6 hHeld ?_
  refine wpAnyH_done (by kernel_rfl) ?_ _
  refine NoPanic.normal ?_
  have hbz := hb1.trans (hB.mono hb1.size)
  clear hB hHeld
  go_wp2_with fail
  go_ret
  exact ⟨rfl, hbz⟩
end Go.Proofs.YtcbilopdeiapjaaDoor

/- LAYER 19: the document's Tags, End. -/
namespace Go.Proofs.YtcbilopdeiapjaaDoor
set_option maxRecDepth 100000
open Go Go.RowKit

theorem wpList_slice19 {P : Program} {w w' : World} {ops : Array Oper} {rest : List Oper} {o : Oper} {a : Act} {Q : Exit → Act → World → Prop} (hgd : o.guard = none) (ty : TypeId) (n : Nat) (parts : List (Nat × Operand)) (ho : o.op = .buildSlice ty n parts.toArray) (vals : List (Nat × Value)) (hx : parts.map (fun p => (p.1, a.eval p.2)) = vals) (v : Value)
    (hv : (Instr.buildSlice ty n vals.toArray).run P w = .ok v w') (h : wpList P ops Q rest (a.put o.dst v) w') : wpList P ops Q (o :: rest) a w := by
  refine wpList_plain hgd fun _ hK => ?_
  subst hx
  unfold Oper.wp execOp
  simp only [ho, Sem.run_bind, Sem.run_pure, Result.andThen_ok, List.map_toArray, hv]
  exact hK _ _ h
theorem arr_one (x : List UInt8) : (byts x).toArray.all (·.oneCell') = true := by rw [List.all_toArray, List.all_eq_true]; exact byts_one x
end Go.Proofs.YtcbilopdeiapjaaDoor

/- LAYER 10: package packet: numbered, flag, fields, Caveat. -/
namespace Go.Proofs.YtcbilopdeiapjaaDoor
set_option maxRecDepth 100000
open Go Go.RowKit

theorem pnumbered_any (n : Nat) (h : n < 18446744073709551616) (w : World) :
    Calls Tryd.prog 78 #[.int .u64 n] w fun e w' => e = .returned (.string (bstr (varL n))) ∧ Below w.heap.size w w' := by
  have hv := Lib.hid (show ∀ w1, Calls Tryd.prog 87 #[.slice none 0 0, .int .u64 n] w1 (GaveBytes (varL n) w1) from fun w1 => vput_any none 0 0 [] n h w1 ⟨.inl rfl, Nat.le_refl _, fun _ => rfl⟩ rfl (by decide))
  go_enter Tryd.func78, Tryd.ntmps78
  go_wp2_with (go_at_call 87; refine (hv.out _).mono ?_; rintro e w1 ⟨v1, rfl, hown1, hb1⟩; obtain ⟨A1, c1, rfl, _, hsl1⟩ := Sl.of_own hown1; have hcv := conv_bytes hsl1 _ rfl; clear hown1 hsl1)
  go_ret
  exact ⟨rfl, hb1⟩
set_option maxRecDepth 100000 in
set_option maxHeartbeats 1000000 in
theorem pfields_any (c : Cav) (hp : c.party < 18446744073709551616) (w : World) :
    Calls Tryd.prog 63 #[.agg (cavV c).toArray] w fun e w' => ∃ A d, e = .returned (.slice A (cavF c).length d) ∧ Sl w' A (d * 2) ((cavF c).flatMap fdV) ∧ Below w.heap.size w w' := by
  obtain ⟨third, text, party, id, vault⟩ := c
  have hnum := Lib.hid (pnumbered_any party hp)
  have hb1 : Below w.heap.size w (w.alloc (.cells (cavV ⟨third, text, party, id, vault⟩).toArray 48)) := (Below.refl _ _).alloc (Nat.le_refl _) _
  have hr : Row (w.alloc (.cells (cavV ⟨third, text, party, id, vault⟩).toArray 48)) w.heap.size 48 (cavV ⟨third, text, party, id, vault⟩) := Row.new w 48 _
  unfold cavV at *
  cases third
  · go_enter Tryd.func63, Tryd.ntmps63
    go_wp2
    go_ret
    exact ⟨_, 1, rfl, ⟨Rd.block (fr := (0, 0)) (t := 113) (heap_alloc2_new w _ _), Nat.le_refl _, fun h => by cases h⟩, hb1.alloc hb1.size _⟩
  · go_enter Tryd.func63, Tryd.ntmps63
    go_wp2_with fail
    generalize hw1 : World.alloc w _ = w1 at hb1 hr ⊢
    clear hw1
    have hc0 : ∀ w', Below w1.heap.size w1 w' → w'.cell? ⟨w.heap.size, 2, none⟩ = some (.int .u64 party) := fun w' h => by rw [(hr.later h hr.lt).cell]; rfl
    have hc1 : ∀ w', Below w1.heap.size w1 w' → w'.cell? ⟨w.heap.size, 3, none⟩ = some (.string (bstr id)) := fun w' h => by rw [(hr.later h hr.lt).cell]; rfl
    have hc2 : ∀ w', Below w1.heap.size w1 w' → w'.cell? ⟨w.heap.size, 4, none⟩ = some (.string (bstr vault)) := fun w' h => by rw [(hr.later h hr.lt).cell]; rfl
    refine wp_region_noPanic ?_
    refine wp_region_held_drew (S := fun w' => Below w1.heap.size w1 w') (by kernel_rfl) ((Below.refl _ _).drew) (fun hHeld => ?_)
    refine rt 0 10 hHeld ?_
    refine rt 1 11 hHeld ?_
    refine rt 4 14 hHeld ?_
    refine rt 5 15 hHeld ?_
    refine rt 6 16 hHeld ?_
    refine rt 7 17 hHeld ?_
    refine rt 8 18 hHeld ?_
    refine rt 9 19 hHeld ?_
    refine rc1 2 fun K hK => ?_
    go_simp
    refine (hnum.out _).mono ?_; rintro e w2 ⟨rfl, hb2⟩; have hq2 := hHeld.trans (hb2.mono hHeld.size)
    try go_wp2_with fail
    refine hK.out _ _ (hq2) (fun hHeld => ?_)
    clear hK K
    refine rt 3 13 hHeld ?_
    refine rc1 10 fun K hK => ?_
    refine step_alloc (some 20) rfl (by rfl) (.slice (some ⟨w2.heap.size, 0, none⟩) 3 3) (.cells (([(4, varL party), (5, id), (6, vault)] : List Fd).flatMap fdV).toArray 113) (by go_simp; try rfl) ?_; intro w3 hw3 hb3; have hsl : Sl w3 (some ⟨w2.heap.size, 0, none⟩) (3 * 2) (([(4, varL party), (5, id), (6, vault)] : List Fd).flatMap fdV) := (by rw [hw3]; exact ⟨Rd.block (Go.heap_alloc_new w2 _), Nat.le_refl _, fun h => by cases h⟩); have hq3 := hHeld.trans (hb3.mono hHeld.size); clear hw3
    refine rk hK (hq3) fun hHeld => ?_
    clear hK K
    refine rt 11 2 hHeld ?_
    refine wpAnyH_done (by kernel_rfl) ?_ _
    refine NoPanic.normal ?_
    go_wp2
    go_ret
    exact ⟨_, 3, rfl, hsl, hb1.trans (hq3.mono hb1.size)⟩
theorem joinL_cav {c : Cav} (hm : capC c ≤ 100000) : (joinL (cavF c)).length ≤ 1000000 := by
  unfold capC at hm
  have h := fieldsL_len 100000 (cavF c) (fun f hf => by
    have hv := length_varL c.party
    unfold cavF at hf
    by_cases ht : c.third = true
    · rw [if_pos ht] at hf
      simp only [List.mem_cons, List.not_mem_nil, or_false] at hf
      rcases hf with rfl | rfl | rfl
      · show (varL c.party).length ≤ 100000; omega
      · show c.id.length ≤ 100000; omega
      · show c.vault.length ≤ 100000; omega
    · rw [if_neg ht] at hf
      rw [List.mem_singleton.1 hf]
      show c.text.length ≤ 100000; omega)
  have h3 := cavF_len c
  have : (cavF c).length * (100000 + 11) ≤ 3 * (100000 + 11) := Nat.mul_le_mul_right _ h3
  omega
theorem pcav_any (c : Cav) (hp : c.party < 18446744073709551616) (hm : capC c ≤ 100000) (w : World) :
    Calls Tryd.prog 48 #[.agg (cavV c).toArray] w (GaveBytes (joinL (cavF c)) w) := by
  have hf := Lib.hid (pfields_any c hp)
  have hj := Lib.hid (show ∀ A d w1, Sl w1 A (d * 2) ((cavF c).flatMap fdV) → Calls Tryd.prog 62 #[.slice A (cavF c).length d] w1 (GaveBytes (joinL (cavF c)) w1) from fun A d w1 h => fjoin_any A (cavF c).length d (cavF c) w1 h rfl (joinL_cav hm))
  have hb1 := (Below.refl w.heap.size w).alloc (Nat.le_refl _) (.cells (cavV c).toArray 48)
  generalize joinL (cavF c) = L at *
  generalize cavF c = F at *
  unfold cavV at *
  clear hp hm
  have hsz : ∀ w6, Below w.heap.size w w6 → w.heap.size ≤ w6.heap.size := fun _ h => h.size
  go_enter Tryd.func48, Tryd.ntmps48
  go_wp2_with (first
    | (go_at_call 63; refine (hf.out _).mono ?_; rintro e w6 ⟨A6, d6, rfl, hs6, hb6⟩; have hbw6 := hb1.trans (hb6.mono hb1.size))
    | (go_at_call 62; refine (hj.out _ _ _ hs6).mono ?_; rintro e w7 ⟨v7, rfl, hown7, hb7⟩))
  go_ret
  exact ⟨_, rfl, own_mono hown7 hbw6.size, hbw6.trans (hb7.mono hbw6.size)⟩
end Go.Proofs.YtcbilopdeiapjaaDoor

/- LAYER 10: what Encode and Check answer: lists alone. -/
namespace Go.Proofs.YtcbilopdeiapjaaDoor
set_option maxRecDepth 100000
open Go Go.RowKit

def errT (t : Tok) : Int := if checkT t then 0 else 1
end Go.Proofs.YtcbilopdeiapjaaDoor

/- LAYER 10: package packet: can, Check. -/
namespace Go.Proofs.YtcbilopdeiapjaaDoor
set_option maxRecDepth 100000
open Go Go.RowKit

set_option maxHeartbeats 1000000 in
theorem pcan_any (c : Cav) (w : World) :
    Calls Tryd.prog 46 #[.agg (cavV c).toArray] w fun e w' => e = .returned (.bool (canC c)) ∧ Below w.heap.size w w' := by
  obtain ⟨third, text, party, id, vault⟩ := c
  have h1 := size_bstr text
  have h2 := size_bstr id
  have h3 := size_bstr vault
  have e1 := bstr_toList text
  have e2 := bstr_toList id
  have e3 := bstr_toList vault
  unfold cavV
  cases third
  · go_enter Tryd.func46, Tryd.ntmps46
    go_wp2
    all_goals go_ret
    all_goals refine ⟨?_, (Below.refl _ _).alloc (Nat.le_refl _) _⟩
    all_goals simp_all [canC]
    all_goals first | (intro; omega) | (have hq : text.length ≤ 512 := (by omega); cases vault <;> simp [hq]) | (have hq : id.length ≤ 1024 := (by omega); rw [decide_eq_true hq, Bool.true_and]; exact decide_eq_decide.2 (by omega)) | omega
  · go_enter Tryd.func46, Tryd.ntmps46
    go_wp2
    all_goals go_ret
    all_goals refine ⟨?_, (Below.refl _ _).alloc (Nat.le_refl _) _⟩
    all_goals simp_all [canC]
    all_goals first | (intro; omega) | (have hq : text.length ≤ 512 := (by omega); cases vault <;> simp [hq]) | (have hq : id.length ≤ 1024 := (by omega); rw [decide_eq_true hq, Bool.true_and]; exact decide_eq_decide.2 (by omega))
theorem pnot_any (c : Cav) (w : World) :
    Calls Tryd.prog 45 #[.agg (cavV c).toArray] w fun e w' => e = .returned (.bool (!canC c)) ∧ Below w.heap.size w w' := by
  have hcan := Lib.hid (pcan_any c)
  have hb1 := (Below.refl w.heap.size w).alloc (Nat.le_refl _) (.cells (cavV c).toArray 48)
  unfold cavV at *
  generalize canC c = r at *
  go_enter Tryd.func45, Tryd.ntmps45
  go_wp2_with (go_at_call 46; refine (hcan.out _).mono ?_; rintro e w6 ⟨rfl, hb6⟩; have hbw6 := hb1.trans (hb6.mono hb1.size))
  go_ret
  exact ⟨rfl, hbw6⟩
set_option maxRecDepth 100000 in
set_option maxHeartbeats 2000000 in
theorem pindex_any (A : Option Addr) (c : Nat) (cs : List Cav) (w : World) (hs : Sl w A (c * 5) (cs.flatMap cavV)) (hm : cs.length ≤ 1000000) :
    Calls Tryd.prog 61 #[.slice A cs.length c, .func (.func 45) #[] #[]] w fun e w' => ∃ r : Int, e = .returned (.int .i64 r) ∧ (r = -1 ∧ cs.all canC = true ∨ 0 ≤ r ∧ cs.all canC = false) ∧ Below w.heap.size w w' := by
  have h2' : (cs.length : Int) ≤ 1000000 := by omega
  go_enter Tryd.func61, Tryd.ntmps61
  go_wp2_with fail
  go_loopw [8] (fun i wr => ∃ k : Nat, k ≤ cs.length ∧ i = .int .i64 k ∧ (cs.take k).all canC = true ∧ Below w.heap.size w wr) (fun i _ => cs.length - (intOf i).toNat)
  case atStart => exact ⟨0, by omega, rfl, rfl, Below.refl _ _⟩
  case round =>
    obtain ⟨k, hk, rfl, hall, hb⟩ := hrel
    by_cases hlt : k < cs.length
    · obtain ⟨cv, hcv⟩ : ∃ cv, cs[k]? = some cv := ⟨_, List.getElem?_eq_getElem hlt⟩
      obtain ⟨b, o, rfl, hb0, hr0⟩ := hs.rd.get (i := 0) (by rw [length_cavsV]; omega)
      clear hb0 hr0
      have hix := index_cav (some ⟨b, o, none⟩) b o cs.length c k rfl hlt
      have hrg := (hs.later (Nat.le_refl _) hb).thing (k := 5) (fun _ _ => rfl) k cv hcv
      have HA := Lib.hid (all_take hall hcv)
      have HB := Lib.hid (all_bad hcv)
      have hcan := Lib.hid (pnot_any cv)
      have hzf := Lib.hid (show (Tryd.prog.info? 48).map (·.size) = some (cavV cv).length from size_cav)
      obtain ⟨V2, hV2q⟩ : ∃ V, V = cavV cv := ⟨_, rfl⟩
      rw [← hV2q] at hrg hcan hzf
      clear hV2q hcv hall
      generalize canC cv = r at *
      go_wp2_with (first
        | (with_reducible refine wpList_load_mid rfl 48 (.tmp 14) rfl b (o + k * 5) rfl V2 _ hrg Tryd.underlying48 rfl hzf.out ?_)
        | (go_at_call 45; refine (hcan.out _).mono ?_; rintro e w6 ⟨rfl, hb6⟩; have hbw6 := hb.trans (hb6.mono hb.size); cases r))
      · go_ret
        exact ⟨k, rfl, .inr ⟨by omega, HB.out (by first | rfl | trivial)⟩, hbw6⟩
      · go_roundw
        case rel => exact ⟨k + 1, by omega, by go_num, HA.out, hbw6⟩
        case measure => simp [intOf]; omega
    · obtain rfl : k = cs.length := by omega
      rw [List.take_length] at hall
      clear hlt hk hs
      generalize cs.length = n at *
      go_wp2
      go_ret
      exact ⟨-1, rfl, .inl ⟨rfl, hall⟩, hb⟩
theorem phas_any (A : Option Addr) (c : Nat) (cs : List Cav) (w : World) (hs : Sl w A (c * 5) (cs.flatMap cavV)) (hm : cs.length ≤ 1000000) :
    Calls Tryd.prog 47 #[.slice A cs.length c, .func (.func 45) #[] #[]] w fun e w' => e = .returned (.bool (!cs.all canC)) ∧ Below w.heap.size w w' := by
  have hi := Lib.hid (pindex_any A c cs w hs hm)
  generalize cs.all canC = r at *
  generalize cs.length = n at *
  clear hs
  go_enter Tryd.func47, Tryd.ntmps47
  go_wp2_with (go_at_call 61; refine hi.out.mono ?_; rintro e w6 ⟨x, rfl, hx, hb6⟩)
  · rcases hx with ⟨rfl, rfl⟩ | ⟨h1, rfl⟩
    all_goals go_wp2
    all_goals go_ret
    all_goals first | exact ⟨rfl, hb6⟩ | (exfalso; omega) | trace_state
set_option maxRecDepth 100000 in
set_option maxHeartbeats 2000000 in
theorem pcheck_any (t : Tok) (_ht : t.Ok) (_hf : t.Fit) (A : Option Addr) (c : Nat) (w : World) (hs : Sl w A (c * 5) (t.cavs.flatMap cavV)) :
    Calls Tryd.prog 32 #[.agg (tokV t A c).toArray] w fun e w' => e = .returned (.int .i64 (errT t)) ∧ Below w.heap.size w w' := by
  have hb1 : Below w.heap.size w (w.alloc (.cells (tokV t A c).toArray 27)) := (Below.refl _ _).alloc (Nat.le_refl _) _
  have hr : Row (w.alloc (.cells (tokV t A c).toArray 27)) w.heap.size 27 (tokV t A c) := Row.new w 27 _
  have hg := tokV_get t A c
  obtain ⟨V, hV⟩ : ∃ V, V = tokV t A c := ⟨_, rfl⟩
  rw [← hV] at hb1 hr hg ⊢
  clear hV
  have hc1 : (w.alloc (.cells V.toArray 27)).cell? ⟨w.heap.size, 1, none⟩ = some (.string (bstr t.id)) := by rw [hr.cell]; exact hg.2.1
  have hc2 : (w.alloc (.cells V.toArray 27)).cell? ⟨w.heap.size, 2, none⟩ = some (.slice A t.cavs.length c) := by rw [hr.cell]; exact hg.2.2.1
  have hz := size_bstr t.id
  clear hg hr
  obtain ⟨E, hE⟩ : ∃ E, E = errT t := ⟨_, rfl⟩
  rw [← hE]
  unfold errT at hE
  replace hE := Lib.hid hE
  by_cases h1 : 1024 < t.id.length
  · have HE := Lib.hid (check_id h1)
    have h1' : (1024 : Int) < (t.id.length : Int) := by omega
    clear hs h1
    go_enter Tryd.func32, Tryd.ntmps32
    go_wp2
    go_ret
    exact ⟨by rw [hE.out, HE.out]; rfl, hb1⟩
  by_cases h2 : 64 < t.cavs.length
  · have HE := Lib.hid (check_many h2)
    have h1' : (t.id.length : Int) ≤ 1024 := by omega
    have h2' : (64 : Int) < (t.cavs.length : Int) := by omega
    clear hs h1 h2
    go_enter Tryd.func32, Tryd.ntmps32
    go_wp2
    go_ret
    exact ⟨by rw [hE.out, HE.out]; rfl, hb1⟩
  have HE := Lib.hid (check_cavs (t := t) (by omega) (by omega))
  have h1' : (t.id.length : Int) ≤ 1024 := by omega
  have h2' : (t.cavs.length : Int) ≤ 64 := by omega
  have hhas := Lib.hid (fun w1 h => phas_any A c t.cavs w1 h (by omega))
  generalize t.cavs.all canC = r at *
  have hs1 := hs.later (Nat.le_refl _) hb1
  clear h1 h2 hs
  go_enter Tryd.func32, Tryd.ntmps32
  go_wp2_with (go_at_call 47; refine (hhas.out _ hs1).mono ?_; rintro e w6 ⟨rfl, hb6⟩; have hbw6 := hb1.trans (hb6.mono hb1.size); cases r)
  all_goals go_ret
  all_goals exact ⟨by rw [hE.out, HE.out]; rfl, hbw6⟩
end Go.Proofs.YtcbilopdeiapjaaDoor

/- ARRAYS OF BYTES, compared. -/
namespace Go.Proofs.YtcbilopdeiapjaaDoor
set_option maxRecDepth 100000
open Go Go.RowKit

theorem cells_byte : Tryd.prog.cellsOf 5 = 1 := by kernel_rfl
theorem part_byte (xs : List UInt8) (i : Nat) (h : i < xs.length) (w : World) : (Go.part 5 (byts xs).toArray (i * 1)).run Tryd.prog w = .ok (.int .u8 ((xs.getD i 0).toNat : Int)) w := by
  have hc : (byts xs).toArray[i * 1]? = some (.int .u8 ((xs.getD i 0).toNat : Int)) := by
    rw [Nat.mul_one, List.getElem?_toArray, get_byts _ _ h]
  simp only [Go.part, isAgg, Sem.run_bind, run_underlying Tryd.underlying5, Result.andThen_ok, Sem.run_pure, hc]
  rfl
theorem run_items (xs ys : List UInt8) (is : List Nat) (hx : ∀ i ∈ is, i < xs.length) (hy : ∀ i ∈ is, i < ys.length) (w : World) :
    (Op.eqItems 9999 5 1 (byts xs).toArray (byts ys).toArray is).run Tryd.prog w = .ok (is.all fun i => decide (xs.getD i 0 = ys.getD i 0)) w := by
  induction is with
  | nil => simp [Op.eqItems]
  | cons i is ih =>
    have h := ih (fun j hj => hx j (by simp [hj])) (fun j hj => hy j (by simp [hj]))
    simp only [Op.eqItems, Sem.run_bind, part_byte xs i (hx i (by simp)) w, part_byte ys i (hy i (by simp)) w, Result.andThen_ok, run_equalIn_int w 9998 5 .u8 .u8 _ _ Tryd.underlying5, List.all_cons]
    generalize xs.getD i 0 = a
    generalize ys.getD i 0 = b
    by_cases e : a = b
    · subst e
      simp only [BEq.rfl, Bool.not_true, Bool.false_eq_true, if_false, decide_true, Bool.true_and, h]
    · have e' : ((a.toNat : Int) == (b.toNat : Int)) = false := by
        rw [beq_eq_false_iff_ne]
        intro h
        exact e (UInt8.toNat_inj.1 (by omega))
      simp only [e', e, Bool.not_false, if_true, decide_false, Bool.false_and, Sem.run_pure]
theorem all_getD (xs ys : List UInt8) (h : xs.length = ys.length) : ((List.range xs.length).all fun i => decide (xs.getD i 0 = ys.getD i 0)) = decide (xs = ys) := by
  rw [Bool.eq_iff_iff, List.all_eq_true, decide_eq_true_iff]
  constructor
  · intro hall
    apply List.ext_getElem h
    intro i h1 h2
    have := hall i (by simpa using h1)
    simpa [h1, h2] using this
  · rintro rfl i _
    simp
/-- Two arrays of bytes, compared. -/
theorem run_eq_bytes (t : TypeId) (n : Nat) (i0 : TypeInfo) (hu : Tryd.prog.underlying t = some (.array n 5)) (hi : Tryd.prog.info? 5 = some i0) (xs ys : List UInt8) (hx : xs.length = n) (hy : ys.length = n) (w : World) :
    (Op.equalIn 10000 t (.agg (byts xs).toArray) (.agg (byts ys).toArray)).run Tryd.prog w = .ok (decide (xs = ys)) w := by
  rw [run_equalIn_array w 9999 _ _ hu hi, cells_byte, run_items xs ys (List.range n) (fun i h => by rw [hx]; simpa using h) (fun i h => by rw [hy]; simpa using h) w, ← hx, all_getD xs ys (by rw [hx, hy])]
end Go.Proofs.YtcbilopdeiapjaaDoor
