/- LAYER 6: package derive's Key. -/
import Derived.Test.YtefbopgbikmohaaDoorDf
import Derived.Test.YtefbopgbikmohaaDoorF6k
import Derived.Test.YtefbopgbikmohaaDoorHo
namespace Go.Proofs.YtefbopgbikmohaaDoor
open Go Go.RowKit

theorem two_rows {w w1 : World} {A B : List Value} {tA tB : TypeId} (h : (w.alloc (.cells A.toArray tA)).alloc (.cells B.toArray tB) = w1) :
    Row w1 w.heap.size tA A ∧ Row w1 (w.heap.size + 1) tB B ∧ Below w.heap.size w w1 ∧ w1.heap.size = w.heap.size + 2 := by
  subst h
  have s1 : (w.alloc (.cells A.toArray tA)).heap.size = w.heap.size + 1 := World.size_alloc _ _
  exact ⟨heap_alloc2_old w _ _, heap_alloc2_new w _ _, ((Below.refl _ w).alloc (Nat.le_refl _) _).alloc (by omega) _, by rw [World.size_alloc, s1]⟩
theorem parts_pair {w : World} {A B : Option Addr} {c d : Nat} {l k : List UInt8} (h : Sl w A c (byts l)) (g : Sl w B d (byts k)) :
    Parts (w.alloc (.cells #[.slice A l.length c, .slice B k.length d] 27)) (some ⟨w.heap.size, 0, none⟩) 2 [(A, c, l), (B, d, k)] := by
  have r := Row.new w 27 [.slice A l.length c, .slice B k.length d]
  have hb := (Below.refl w.heap.size w).alloc (Nat.le_refl _) (.cells #[.slice A l.length c, .slice B k.length d] 27)
  refine ⟨⟨Rd.row (ys := []) (by rw [List.append_nil]; exact r), by simp, fun h => by cases h⟩, fun p hp => ?_⟩
  simp only [List.mem_cons, List.not_mem_nil, or_false] at hp
  rcases hp with rfl | rfl
  · exact h.later (Nat.le_refl _) hb
  · exact g.later (Nat.le_refl _) hb
set_option maxRecDepth 20000 in
set_option maxHeartbeats 1000000 in
theorem dkey_any (key : List UInt8) (hk : key.length = 32) (use : List UInt8) (A : Option Addr) (n c : Nat) (ss : List (List UInt8)) (w : World) (hT : Tabs w) (hs : Sl w A c (strsV ss)) (hn : n = ss.length) (hm : sumS (use :: ss) ≤ 1000000000) :
    Calls Tryd.prog 9 #[.agg (byts key).toArray, .string (bstr use), .slice A n c] w fun e w' => e = .returned (.agg (byts (keyD key use ss)).toArray) ∧ Below w.heap.size w w' := by
  subst hn
  have hFl := length_frameL (use :: ss)
  have hm1 : sumS [use] ≤ 1000000000 := by have := sumS_le (use :: ss) 1; rw [show (use :: ss).take 1 = [use] from rfl] at this; omega
  have hm2 : sumS ss ≤ 1000000000 := by have h2 : sumS (use :: ss) = use.length + 1 + sumS ss := rfl; omega
  obtain ⟨K, hK⟩ : ∃ K, K = byts key := ⟨_, rfl⟩
  have HK := Lib.hid hK
  have hKl : K.length = 32 := by rw [hK, length_byts]; exact hk
  obtain ⟨V, hV⟩ : ∃ V, V = byts (keyD key use ss) := ⟨_, rfl⟩
  have hVl : V.length = 32 := by rw [hV, length_byts]; exact length_keyD _ _ _
  have hone := Lib.hid (show ∀ v ∈ V, v.oneCell' = true by rw [hV]; exact byts_one _)
  have hszl := Lib.hid (show (Tryd.prog.info? 23).map (·.size) = some V.length by rw [size_tag, hVl])
  have hsz2 := Lib.hid (show (Tryd.prog.info? 23).map (·.size) = some V.toArray.size by rw [size_tag, List.size_toArray, hVl])
  have hfit := Lib.hid (show 0 + V.length ≤ (List.replicate 32 (Value.int .u8 0)).length by rw [hVl, List.length_replicate]; decide)
  have HVr := Lib.hid (show splice (List.replicate 32 (Value.int .u8 0)) 0 V = V by
    unfold splice
    rw [List.take_zero, List.nil_append, Nat.zero_add, hVl, List.drop_of_length_le (by rw [List.length_replicate]; exact Nat.le_refl _), List.append_nil])
  have hkl := Lib.hid hk
  obtain ⟨F1, hF1⟩ : ∃ F, F = frameL [use] := ⟨_, rfl⟩
  obtain ⟨F2, hF2⟩ : ∃ F, F = frameL ss := ⟨_, rfl⟩
  have hF12 := Lib.hid (show ∀ (A4 A5 : Option Addr) (c4 c5 : Nat), flat [(A4, c4, F1), (A5, c5, F2)] = frameL (use :: ss) by
    intros
    rw [hF1, hF2, show use :: ss = [use] ++ ss from rfl, frameL_append]
    simp [flat])
  have hFm := Lib.hid (show ∀ (A4 A5 : Option Addr) (c4 c5 : Nat), 64 + (flat [(A4, c4, F1), (A5, c5, F2)]).length ≤ 2305843009213693952 by
    intros
    rw [hF12.out _ _ _ _]; omega)
  have hf1 := Lib.hid (show ∀ w1 B d, Sl w1 B d (strsV [use]) → Calls Tryd.prog 7 #[.slice B 1 d] w1 (GaveBytes F1 w1) by
    rw [hF1]
    exact fun w1 B d h => dframe_any B 1 d [use] w1 h rfl hm1)
  have hf2 := Lib.hid (show ∀ w1, Sl w1 A c (strsV ss) → Calls Tryd.prog 7 #[.slice A ss.length c] w1 (GaveBytes F2 w1) by
    rw [hF2]
    exact fun w1 h => dframe_any A ss.length c ss w1 h rfl hm2)
  have HV := Lib.hid (show V = byts (macL key (frameL (use :: ss))) by rw [hV]; rfl)
  have HVD := Lib.hid hV
  rw [← hK]
  clear hV hVl hK hF1 hF2 hFl hk
  go_enter Tryd.func9, Tryd.ntmps9
  go_wp2_with fail
  generalize hw2 : World.alloc (World.alloc w _) _ = w2
  obtain ⟨r0, r1, hb2, _hs2⟩ := two_rows (A := K) (B := List.replicate 32 (.int .u8 0)) hw2
  clear hw2 _hs2
  have hsl2 := hs.later (Nat.le_refl _) hb2
  have hT2 := hT.later hb2 (Nat.le_refl _)
  have hslK : Sl w2 (some ⟨w.heap.size, 0, none⟩) 32 (byts key) := ⟨Rd.row (ys := []) (by rw [List.append_nil, ← HK.out]; exact r0), by rw [length_byts, hkl.out]; exact Nat.le_refl _, fun h => by cases h⟩
  clear r0 hs
  refine wp_region_noPanic ?_
  refine wp_region_held_drew (S := fun _ => True) (by kernel_rfl) (trivial) (fun hHeld => ?_)
  refine rtake 0 _ (some 7) _ rfl rfl (by kernel_rfl) (by kernel_rfl) (by kernel_rfl) (fun _ _ _ h => h) (by rfl) hHeld (by intro w hS; go_simp; try with_reducible rfl) ?_
  try (first | (rw [put_some]; dsimp only [List.set]) | rw [put_none])
  refine rtake 1 _ (some 8) _ rfl rfl (by kernel_rfl) (by kernel_rfl) (by kernel_rfl) (fun _ _ _ h => h) (by rfl) hHeld (by intro w hS; go_simp; try with_reducible rfl) ?_
  try (first | (rw [put_some]; dsimp only [List.set]) | rw [put_none])
  refine rtake 4 _ (some 11) _ rfl rfl (by kernel_rfl) (by kernel_rfl) (by kernel_rfl) (fun _ _ _ h => h) (by rfl) hHeld (by intro w hS; go_simp; try with_reducible rfl) ?_
  try (first | (rw [put_some]; dsimp only [List.set]) | rw [put_none])
  refine wpAnyH_ready (rs := [2]) (by kernel_rfl) (by simp) (AllReadyH.cons (o := _) rfl (fun K hK => ?_) AllReadyH.nil)
  refine step_alloc (some 9) rfl (by rfl) (.slice (some ⟨w2.heap.size, 0, none⟩) 1 1) (.cells #[.string (bstr use)] 9) (by go_simp) ?_; intro w3 hw3 hb3; have hsu : Sl w3 (some ⟨w2.heap.size, 0, none⟩) 1 (strsV [use]) := (by rw [hw3]; exact ⟨Rd.row (ys := []) (by rw [List.append_nil]; exact Row.new w2.drew 9 (strsV [use])), by rw [length_strsV]; exact Nat.le_refl _, fun h => by cases h⟩); have hb23 : Below w2.heap.size w2 w3 := (Below.refl w2.heap.size w2).drew.trans hb3; clear hw3
  refine hK.out _ _ (trivial) (fun hHeld => ?_)
  clear hK K
  try (first | (rw [put_some]; dsimp only [List.set]) | rw [put_none])
  refine wpAnyH_ready (rs := [3]) (by kernel_rfl) (by simp) (AllReadyH.cons (o := _) rfl (fun K hK => ?_) AllReadyH.nil)
  go_simp
  refine (hf1.out _ _ _ hsu).mono ?_; rintro e w4 ⟨v4, rfl, hown4, hb4⟩; obtain ⟨A4, c4, rfl, _, hsl4⟩ := Sl.of_own hown4; have hb24 := below_step hb23 hb4; clear hown4
  try go_wp2_with fail
  refine hK.out _ _ (trivial) (fun hHeld => ?_)
  clear hK K
  try (first | (rw [put_some]; dsimp only [List.set]) | rw [put_none])
  refine wpAnyH_ready (rs := [5]) (by kernel_rfl) (by simp) (AllReadyH.cons (o := _) rfl (fun K hK => ?_) AllReadyH.nil)
  go_simp
  refine (hf2.out _ (hsl2.later (Nat.le_refl _) hb24)).mono ?_; rintro e w5 ⟨v5, rfl, hown5, hb5⟩; obtain ⟨A5, c5, rfl, _, hsl5⟩ := Sl.of_own hown5; have hb25 := below_step hb24 hb5; clear hown5
  try go_wp2_with fail
  refine hK.out _ _ (trivial) (fun hHeld => ?_)
  clear hK K
  try (first | (rw [put_some]; dsimp only [List.set]) | rw [put_none])
  refine wpAnyH_ready (rs := [6]) (by kernel_rfl) (by simp) (AllReadyH.cons (o := _) rfl (fun K hK => ?_) AllReadyH.nil)
  refine step_alloc (some 13) rfl (by rfl) (.slice (some ⟨w5.heap.size, 0, none⟩) 2 2) (.cells #[.slice A4 F1.length c4, .slice A5 F2.length c5] 27) (by go_simp) ?_; intro w6 hw6 hb6; have hpt : Parts w6 (some ⟨w5.heap.size, 0, none⟩) 2 [(A4, c4, F1), (A5, c5, F2)] := (by rw [hw6]; exact parts_pair (hsl4.later (Nat.le_refl _) hb5) hsl5); have hb26 := below_step hb25 hb6; clear hw6
  refine hK.out _ _ (trivial) (fun hHeld => ?_)
  clear hK K
  try (first | (rw [put_some]; dsimp only [List.set]) | rw [put_none])
  refine wpAnyH_ready (rs := [7]) (by kernel_rfl) (by simp) (AllReadyH.cons (o := _) rfl (fun K hK => ?_) AllReadyH.nil)
  go_simp
  refine (mof_any (some ⟨w.heap.size, 0, none⟩) 32 32 key (some ⟨w5.heap.size, 0, none⟩) 2 2 [(A4, c4, F1), (A5, c5, F2)] _ (hT2.later hb26 (Nat.le_refl _)) (hslK.later (Nat.le_refl _) hb26) hkl.out.symm hpt rfl (by rw [hkl.out]; decide) (hFm.out _ _ _ _) (by simp)).mono ?_; rintro e w7 ⟨rfl, hb7⟩; have hb27 := below_step hb26 hb7; rw [hF12.out _ _ _ _, ← HV.out]
  try go_wp2_with fail
  refine hK.out _ _ (trivial) (fun hHeld => ?_)
  clear hK K
  try (first | (rw [put_some]; dsimp only [List.set]) | rw [put_none])
  refine wpAnyH_ready (rs := [8]) (by kernel_rfl) (by simp) (AllReadyH.cons (o := _) rfl (fun K hK => ?_) AllReadyH.nil)
  refine step_store_row none rfl (by rfl) 23 (.tmp 6) (.tmp 14) rfl (w.heap.size + 1) 0 23 _ V rfl rfl (r1.later hb27 r1.lt) hfit.out hszl.out hone.out ?_; intro w9 r9 hg9
  refine hK.out _ _ (trivial) (fun _ => ?_)
  clear hK K
  try (first | (rw [put_some]; dsimp only [List.set]) | rw [put_none])
  refine wpAnyH_done (by kernel_rfl) ?_ _
  refine NoPanic.normal ?_
  have r9 : Row w9 (w.heap.size + 1) 23 V := by rw [HVr.out] at r9; exact r9
  have hb9 := (hb2.trans (hb27.mono hb2.size)).grown hg9 (Nat.le_trans hb2.size hb27.size) (fun k h => by cases h; omega)
  have R9 := Lib.hid (show w9.heap[w.heap.size + 1]? = some (.cells V.toArray 23 (0, 0)) from r9)
  clear r9 hg9 r1 hslK hsl2 hsu hsl4 hsl5 hpt hb3 hb4 hb5 hb6 hb7 hb23 hb24 hb25 hb26 hb27 hb2
  go_wp2_with (with_reducible refine bodyPost_ret (results_cell_row rfl _ _ (w.heap.size + 1) 23 V.toArray (0, 0) (.array 32 5) rfl R9.out Tryd.underlying23 rfl hsz2.out) rfl ?_)
  exact ⟨by rw [HVD.out], hb9⟩
end Go.Proofs.YtefbopgbikmohaaDoor
