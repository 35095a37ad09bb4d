/- LAYER 6: the document's Tag and Key. -/
import Derived.Test.YtefbopgbikmohaaDoorF6
import Derived.Test.YtefbopgbikmohaaDoorTg
namespace Go.Proofs.YtefbopgbikmohaaDoor
open Go Go.RowKit

theorem take_next (l : List UInt8) (k : Nat) (hk : k < l.length) (n : Nat) (hn : k < n) : (l.take k ++ List.replicate (n - k) 0).set k (l.getD k 0) = l.take (k + 1) ++ List.replicate (n - (k + 1)) 0 := by
  have hl : (l.take k).length = k := by rw [List.length_take]; omega
  have e : l.take (k + 1) = l.take k ++ [l.getD k 0] := by rw [List.take_add_one]; simp [hk]
  rw [List.set_append_right _ _ (by omega), hl, Nat.sub_self, show n - k = n - (k + 1) + 1 by omega, List.replicate_succ, List.set_cons_zero, e, List.append_assoc]
  rfl
set_option maxRecDepth 20000 in
set_option maxHeartbeats 1000000 in
theorem rtag5_any (A : Option Addr) (n c : Nat) (l : List UInt8) (w : World) (hs : Sl w A c (byts l)) (hn : n = l.length) (h32 : l.length = 32) :
    Calls Tryd.prog 14 #[.slice A n c] w fun e w' => e = .returned (.agg (byts l).toArray) ∧ Below w.heap.size w w' := by
  obtain rfl : n = 32 := by omega
  clear hn
  obtain ⟨b, o, rfl, hb0, hr0⟩ := hs.rd.get (i := 0) (by rw [length_byts]; omega)
  clear hb0 hr0
  obtain ⟨Z, hZ⟩ : ∃ Z, Z = byts zeroT := ⟨_, rfl⟩
  have HZ := Lib.hid hZ
  obtain ⟨V, hV⟩ : ∃ V, V = byts l := ⟨_, rfl⟩
  have hVl : V.length = 32 := by rw [hV, length_byts]; exact h32
  have hone := Lib.hid (all_one (show ∀ v ∈ V, v.oneCell' = true by rw [hV]; exact byts_one _))
  have hsz2 := Lib.hid (show (Tryd.prog.info? 23).map (·.size) = some V.toArray.size by rw [size_tag, List.size_toArray, hVl])
  have hzv := Lib.hid (show Z.toArray.size = V.toArray.size by rw [List.size_toArray, List.size_toArray, hVl, hZ]; rfl)
  have HV := Lib.hid hV
  have HL := Lib.hid h32
  clear hV hVl hZ h32
  go_enter Tryd.func14, Tryd.ntmps14
  go_wp2_with (with_reducible refine wpList_store_row rfl 23 (.tmp 3) (.tmp 5) rfl (w.heap.size + 1) _ rfl rfl 23 _ (heap_alloc2_new w _ _) (by kernel_rfl) (by kernel_rfl) (by kernel_rfl) ?_; refine Hid.out ?_)
  refine Lib.hid ?_
  generalize hw4 : World.setRow _ _ _ = w4
  obtain ⟨r0, r1, hb4⟩ := row_new_set2 hw4
  have r0 : Row w4 w.heap.size 23 Z := by rw [HZ.out, ← zero_cells]; exact r0
  have r1 : Row w4 (w.heap.size + 1) 23 (byts (l.take 0 ++ List.replicate (32 - 0) 0)) := r1
  clear hw4
  go_wp2_with fail
  go_loopw [6] (fun i wr => ∃ k : Nat, k ≤ 32 ∧ i = .int .i64 k ∧ Row wr (w.heap.size + 1) 23 (byts (l.take k ++ List.replicate (32 - k) 0)) ∧ Row wr w.heap.size 23 Z ∧ Below w.heap.size w wr) (fun i _ => 32 - (intOf i).toNat)
  case atStart => exact ⟨0, by omega, rfl, r1, r0, hb4⟩
  case round =>
    clear r0 r1 hb4
    obtain ⟨k, hk, rfl, hrow, hres, hb⟩ := hrel
    by_cases hlt : k < 32
    · have hc := (hs.later (Nat.le_refl _) hb).range k _ (get_byts l k (by rw [HL.out]; exact hlt))
      have hix := index_bytes (some ⟨b, o, none⟩) b o 32 c k rfl hlt
      have HS := Lib.hid (take_next l k (by rw [HL.out]; exact hlt) 32 hlt)
      have hlen : (l.take k ++ List.replicate (32 - k) 0).length = 32 := by rw [List.length_append, List.length_take, List.length_replicate, HL.out]; omega
      have hd := hrow.cell k
      rw [get_byts _ _ (by omega)] at hd
      have hf := hrow.free k
      generalize (((l.take k ++ List.replicate (32 - k) 0).getD k 0).toNat : Int) = y at *
      generalize l.getD k 0 = x at *
      clear hlen
      go_wp2
      go_roundw
      case rel =>
        refine ⟨k + 1, by omega, by go_num, ?_, hres.far _ _ (by show w.heap.size ≠ w.heap.size + 1; omega), hb.grown (grown_setCell _ _ _ _) hb.size (fun k h => by cases h; omega)⟩
        rw [← HS.out, ← byts_set]
        exact hrow.set _ _
      case measure => simp [intOf]; omega
    · obtain rfl : k = 32 := by omega
      rw [List.take_of_length_le (by rw [HL.out]; exact Nat.le_refl _), show 32 - 32 = 0 from rfl, List.replicate_zero, List.append_nil, ← HV.out] at hrow
      have HR := Lib.hid (show wr.heap[w.heap.size + 1]? = some (.cells V.toArray 23 (0, 0)) from hrow)
      have H0 := Lib.hid (show wr.heap[w.heap.size]? = some (.cells Z.toArray 23 (0, 0)) from hres)
      clear hrow hres hs
      go_wp2_with (first
        | (with_reducible refine wpList_load_row rfl 23 (.tmp 3) rfl (w.heap.size + 1) rfl 23 V.toArray (0, 0) _ HR.out Tryd.underlying23 rfl hsz2.out ?_)
        | (with_reducible refine wpList_store_row rfl 23 (.tmp 2) (.tmp 16) rfl w.heap.size V.toArray rfl rfl 23 _ H0.out hsz2.out hzv.out hone.out ?_; refine Hid.out ?_))
      refine Lib.hid ?_
      generalize hw5 : World.setRow _ _ _ = w5
      obtain ⟨r4, hg4⟩ := row_set (show Row wr w.heap.size 23 Z from H0.out) hw5
      have R4 := Lib.hid (show w5.heap[w.heap.size]? = some (.cells V.toArray 23 (0, 0)) from r4)
      have hb5 := hb.grown hg4 hb.size (fun k h => by cases h; exact Nat.le_refl _)
      clear hw5 r4 hg4 HR H0
      go_wp2_with (with_reducible refine bodyPost_ret (results_cell_row rfl _ _ w.heap.size 23 V.toArray (0, 0) (.array 32 5) rfl R4.out Tryd.underlying23 rfl hsz2.out) rfl ?_)
      exact ⟨by rw [HV.out], hb5⟩
/-- What Key answers. -/
def keyD (key use : List UInt8) (ss : List (List UInt8)) : List UInt8 := macL key (frameL (use :: ss))
theorem length_keyD (key use : List UInt8) (ss : List (List UInt8)) : (keyD key use ss).length = 32 := length_macL _ _
set_option maxRecDepth 20000 in
set_option maxHeartbeats 1000000 in
theorem rkey_any (key : List UInt8) (hk : key.length = 32) (use : List UInt8) (A : Option Addr) (n c : Nat) (ss : List (List UInt8)) (w : World) (hs : Sl w A c (strsV ss)) (hn : n = ss.length) (hm : sumS (use :: ss) ≤ 1000000000) :
    Calls Tryd.prog 10 #[.agg (byts key).toArray, .string (bstr use), .slice A n c] w fun e w' => e = .returned (.agg (byts (keyD key use ss)).toArray) ∧ Below w.heap.size w w' := by
  subst hn
  obtain ⟨i0, hi, hz0, hz1, hz2⟩ := info_parts infoStr
  have hsl := sumS_len (use :: ss)
  rw [List.length_cons] at hsl
  have hFl := length_frameL (use :: ss)
  obtain ⟨K, hK⟩ : ∃ K, K = byts key := ⟨_, rfl⟩
  have HK := Lib.hid hK
  have hKl : K.length = 32 := by rw [hK, length_byts]; exact hk
  obtain ⟨V, hV⟩ : ∃ V, V = byts (keyD key use ss) := ⟨_, rfl⟩
  have hVl : V.length = 32 := by rw [hV, length_byts]; exact length_keyD _ _ _
  have hone := Lib.hid (show ∀ v ∈ V, v.oneCell' = true by rw [hV]; exact byts_one _)
  have hszl := Lib.hid (show (Tryd.prog.info? 23).map (·.size) = some V.length by rw [size_tag, hVl])
  have hsz2 := Lib.hid (show (Tryd.prog.info? 23).map (·.size) = some V.toArray.size by rw [size_tag, List.size_toArray, hVl])
  have hfit := Lib.hid (show 0 + V.length ≤ (List.replicate 32 (Value.int .u8 0)).length by rw [hVl, List.length_replicate]; decide)
  have HVr := Lib.hid (show splice (List.replicate 32 (Value.int .u8 0)) 0 V = V by
    unfold splice
    rw [List.take_zero, List.nil_append, Nat.zero_add, hVl, List.drop_of_length_le (by rw [List.length_replicate]; exact Nat.le_refl _), List.append_nil])
  have hkl := Lib.hid hk
  have n1 : 1 + ss.length ≤ maxLen := by unfold maxLen; omega
  have n2 : (1 + ss.length) * 16 ≤ 140737488355328 := by omega
  obtain ⟨F, hF⟩ : ∃ F, F = frameL (use :: ss) := ⟨_, rfl⟩
  have hFm : 64 + F.length ≤ 35184372088832 := by rw [hF]; omega
  have hfr := Lib.hid (show ∀ w1 B d, Sl w1 B d (strsV (use :: ss)) → Calls Tryd.prog 8 #[.slice B (1 + ss.length) d] w1 (GaveBytes F w1) by
    rw [hF]
    exact fun w1 B d h => rframe_any B (1 + ss.length) d (use :: ss) w1 h (by rw [List.length_cons]; omega) hm)
  have HV := Lib.hid (show V = byts (macL key F) by rw [hV, hF]; rfl)
  have HVD := Lib.hid hV
  have HLs := Lib.hid (show ss.length = (strsV ss).length from (length_strsV ss).symm)
  rw [← hK]
  clear hV hVl hK hF hFl hk hsl
  go_enter Tryd.func10, Tryd.ntmps10
  go_wp2_with (at_builtin; refine Hid.out ?_)
  refine Lib.hid ?_
  generalize hw1 : World.alloc (World.alloc (World.alloc w _) _) _ = w1
  obtain ⟨r0, r1, r2, hb1, hs1⟩ := rows3 (A := K) (B := List.replicate 32 (.int .u8 0)) (C := strsV [use]) hw1
  have hown1 : w1.ownsRow (w.heap.size + 1 + 1) 9 1 (.slice (some ⟨w.heap.size + 1 + 1, 0, none⟩) 1 1) 1 (strsV [use]) := own_of_row r2 (Nat.le_refl _) (by rw [length_strsV]; unfold maxLen; simp)
  have hsl1 := hs.later (Nat.le_refl _) hb1
  clear hw1 r2
  go_wp2_with (at_builtin; refine wpList_append_sl rfl (.tmp 9) (.tmp 10) 24 rfl (w.heap.size + 1 + 1) 9 i0 _ 16 Tryd.underlying24 hi hz0 hz1 hz2 rfl _ 1 (strsV [use]) rfl hown1 A ss.length c (strsV ss) rfl HLs.out hsl1 (strsV_one _) n1 n2 (by omega) ?_; intro v2 w2 hown2 hg2; obtain ⟨A2, c2, rfl, _, hslA⟩ := Sl.of_own hown2)
  have hg2 : w1.grownBy w2 (some (w.heap.size + 1 + 1)) := hg2
  have r0 := r0.grown hg2 (by omega)
  have r1 := r1.grown hg2 (by omega)
  have hb2 := hb1.grown hg2 hb1.size (fun k h => by cases h; omega)
  have hslA : Sl w2 A2 c2 (strsV (use :: ss)) := hslA
  have hslK : Sl w2 (some ⟨w.heap.size, 0, none⟩) 32 (byts key) := ⟨Rd.row (ys := []) (by rw [List.append_nil, ← HK.out]; exact r0), by rw [length_byts, hkl.out]; exact Nat.le_refl _, fun h => by cases h⟩
  clear hg2 r0 hown1 hown2 hsl1 hb1 hs1 hs
  refine wp_region_noPanic ?_
  refine wp_region_held_drew (S := fun _ => True) (by kernel_rfl) (trivial) (fun hHeld => ?_)
  refine rtake 0 _ (some 12) _ rfl rfl (by kernel_rfl) (by kernel_rfl) (by kernel_rfl) (fun _ _ _ h => h) (by rfl) hHeld (by intro w hS; go_simp; try with_reducible rfl) ?_
  try (first | (rw [put_some]; dsimp only [List.set]) | rw [put_none])
  refine rtake 1 _ (some 13) _ rfl rfl (by kernel_rfl) (by kernel_rfl) (by kernel_rfl) (fun _ _ _ h => h) (by rfl) hHeld (by intro w hS; go_simp; try with_reducible rfl) ?_
  try (first | (rw [put_some]; dsimp only [List.set]) | rw [put_none])
  refine wpAnyH_ready (rs := [2]) (by kernel_rfl) (by simp) (AllReadyH.cons (o := _) rfl (fun K hK => ?_) AllReadyH.nil)
  go_simp
  refine (hfr.out _ _ _ (hslA.later (Nat.le_refl _) ((Below.refl w2.heap.size w2).drew))).mono ?_; rintro e w6 ⟨v6, rfl, hown6, hb6⟩; obtain ⟨A6, c6, rfl, _, hsl6⟩ := Sl.of_own hown6; have hb26 := below_step ((Below.refl w2.heap.size w2).drew) hb6; clear hown6
  try go_wp2_with fail
  refine hK.out _ _ (trivial) (fun hHeld => ?_)
  clear hK K
  try (first | (rw [put_some]; dsimp only [List.set]) | rw [put_none])
  refine wpAnyH_ready (rs := [3]) (by kernel_rfl) (by simp) (AllReadyH.cons (o := _) rfl (fun K hK => ?_) AllReadyH.nil)
  go_simp
  refine (rmac_any (some ⟨w.heap.size, 0, none⟩) 32 32 key A6 F.length c6 F _ (hslK.later (Nat.le_refl _) hb26) hkl.out.symm (by rw [hkl.out]; decide) hsl6 rfl hFm).mono ?_; rintro e w7 ⟨v7, rfl, hown7, hb7⟩; obtain ⟨A7, c7, rfl, _, hsl7⟩ := Sl.of_own hown7; have hb27 := below_step hb26 hb7; clear hown7
  try go_wp2_with fail
  refine hK.out _ _ (trivial) (fun hHeld => ?_)
  clear hK K
  try (first | (rw [put_some]; dsimp only [List.set]) | rw [put_none])
  refine wpAnyH_ready (rs := [4]) (by kernel_rfl) (by simp) (AllReadyH.cons (o := _) rfl (fun K hK => ?_) AllReadyH.nil)
  go_simp
  refine (rtag5_any A7 _ c7 (macL key F) _ hsl7 rfl (length_macL _ _)).mono ?_; rintro e w8 ⟨rfl, hb8⟩; have hb28 := below_step hb27 hb8; rw [← HV.out]
  try go_wp2_with fail
  refine hK.out _ _ (trivial) (fun hHeld => ?_)
  clear hK K
  try (first | (rw [put_some]; dsimp only [List.set]) | rw [put_none])
  refine wpAnyH_ready (rs := [5]) (by kernel_rfl) (by simp) (AllReadyH.cons (o := _) rfl (fun K hK => ?_) AllReadyH.nil)
  refine step_store_row none rfl (by rfl) 23 (.tmp 6) (.tmp 16) rfl (w.heap.size + 1) 0 23 _ V rfl rfl (r1.later hb28 r1.lt) hfit.out hszl.out hone.out ?_; intro w9 r9 hg9
  refine hK.out _ _ (trivial) (fun _ => ?_)
  clear hK K
  try (first | (rw [put_some]; dsimp only [List.set]) | rw [put_none])
  refine wpAnyH_done (by kernel_rfl) ?_ _
  refine NoPanic.normal ?_
  have r9 : Row w9 (w.heap.size + 1) 23 V := by rw [HVr.out] at r9; exact r9
  have hb9 := (hb2.trans (hb28.mono hb2.size)).grown hg9 (Nat.le_trans hb2.size hb28.size) (fun k h => by cases h; omega)
  have R9 := Lib.hid (show w9.heap[w.heap.size + 1]? = some (.cells V.toArray 23 (0, 0)) from r9)
  clear r9 hg9 r1 hslA hslK hsl6 hsl7 hb6 hb7 hb8 hb26 hb27 hb28 hb2
  go_wp2_with (with_reducible refine bodyPost_ret (results_cell_row rfl _ _ (w.heap.size + 1) 23 V.toArray (0, 0) (.array 32 5) rfl R9.out Tryd.underlying23 rfl hsz2.out) rfl ?_)

  exact ⟨by rw [HVD.out], hb9⟩
end Go.Proofs.YtefbopgbikmohaaDoor
