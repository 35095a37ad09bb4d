/- LAYER 6, DeriveKeys: the walk of the law. -/
import Derived.Test.YtefbopgbikmohaaDoorDk
import Derived.Test.YtefbopgbikmohaaDoorDa
import Derived.Test.YtefbopgbikmohaaDoorEq
import Derived.Test.YtefbopgbikmohaaDoorDp
namespace Go.Proofs.YtefbopgbikmohaaDoor
open Go Go.RowKit

set_option maxRecDepth 100000 in
set_option maxHeartbeats 4000000 in
theorem dkeys_walk (key : List UInt8) (hk : key.length = 32) (use : List UInt8) (A : Option Addr) (n c : Nat) (ss : List (List UInt8)) (w : World) (hT : Tabs w) (hs : Sl w A c (strsV ss)) (hn : n = ss.length)
    (hu : use.length ≤ 9223372036854775807) (hm : ss.length ≤ 9223372036854775807) (he : ∀ l ∈ ss, l.length ≤ 140737488351232) :
    Calls Tryd.prog 3 #[.agg (byts key).toArray, .string (bstr use), .slice A n c] w fun e w' => e = .returned (.bool true) ∧ Below w.heap.size w w' := by
  subst hn
  obtain ⟨K, hK⟩ : ∃ K, K = byts key := ⟨_, rfl⟩
  rw [← hK]
  have HK := Lib.hid hK
  have hKl : K.length = 32 := by rw [hK, length_byts]; exact hk
  have hszK := Lib.hid (show (Tryd.prog.info? 23).map (·.size) = some K.length by rw [size_tag, hKl])
  clear hK hKl
  have hg := Lib.hid (show ∀ w1, Sl w1 A c (strsV ss) → Calls Tryd.prog 6 #[.slice A ss.length c] w1 fun e w' => e = .returned (.bool (decide (300 < sumS ss))) ∧ w1 = w' from fun w1 h => dgreat_any A ss.length c ss w1 h rfl hm (fun l hl => Nat.le_trans (he l hl) (by decide)))
  have hb0 := (Below.refl w.heap.size w).alloc (Nat.le_refl _) (.cells K.toArray 23)
  have hz := size_bstr use
  have hzu : (bstr use).size ≤ 9223372036854775807 := by rw [hz]; exact hu
  clear he hm
  by_cases h300 : 300 < sumS ss
  · have hd : decide (300 < sumS ss) = true := decide_eq_true h300
    rw [hd] at hg
    clear hd h300 hu
    go_enter Tryd.func3, Tryd.ntmps3
    go_wp2_with (first
      | (go_at_call 5; refine (dalive_any _).mono ?_; rintro e w1 ⟨rfl, hb1⟩; have hbw := hb0.trans (hb1.mono hb0.size); have hs1 := hs.later (Nat.le_refl _) hbw; clear hb1 hs)
      | (go_at_call 6; refine (hg.out _ hs1).mono ?_; rintro e w2 ⟨rfl, rfl⟩))
    go_ret
    exact ⟨rfl, hbw⟩
  have hd : decide (300 < sumS ss) = false := decide_eq_false h300
  have hss : sumS ss ≤ 300 := by omega
  rw [hd] at hg
  clear hd h300
  by_cases h200 : 200 < use.length
  · have h200' : 200 < (bstr use).size := by rw [hz]; exact h200
    generalize hU : bstr use = U at *
    clear h200 hu hz hU
    go_enter Tryd.func3, Tryd.ntmps3
    go_wp2_with (first
      | (go_at_call 5; refine (dalive_any _).mono ?_; rintro e w1 ⟨rfl, hb1⟩; have hbw := hb0.trans (hb1.mono hb0.size); have hs1 := hs.later (Nat.le_refl _) hbw; clear hb1 hs)
      | (go_at_call 6; refine (hg.out _ hs1).mono ?_; rintro e w2 ⟨rfl, rfl⟩))
    go_ret
    exact ⟨rfl, hbw⟩
  have hall : sumS (use :: ss) ≤ 1000000000 := by have h2 : sumS (use :: ss) = use.length + 1 + sumS ss := rfl; omega
  have hFl := length_frameL ss
  obtain ⟨F, hF⟩ : ∃ F, F = frameL ss := ⟨_, rfl⟩
  have hf1 := Lib.hid (show ∀ w1, Sl w1 A c (strsV ss) → Calls Tryd.prog 7 #[.slice A ss.length c] w1 (GaveBytes F w1) by
    rw [hF]; exact fun w1 h => dframe_any A ss.length c ss w1 h rfl (by omega))
  have hf2 := Lib.hid (show ∀ w1, Sl w1 A c (strsV ss) → Calls Tryd.prog 8 #[.slice A ss.length c] w1 (GaveBytes F w1) by
    rw [hF]; exact fun w1 h => rframe_any A ss.length c ss w1 h rfl (by omega))
  obtain ⟨V, hV⟩ : ∃ V, V = byts (keyD key use ss) := ⟨_, rfl⟩
  have hk1 := Lib.hid (show ∀ w1, Tabs w1 → Sl w1 A c (strsV ss) → Calls Tryd.prog 9 #[.agg K.toArray, .string (bstr use), .slice A ss.length c] w1 fun e w' => e = .returned (.agg V.toArray) ∧ Below w1.heap.size w1 w' by
    rw [HK.out, hV]; exact fun w1 h1 h2 => dkey_any key hk use A ss.length c ss w1 h1 h2 rfl hall)
  have hk2 := Lib.hid (show ∀ w1, Sl w1 A c (strsV ss) → Calls Tryd.prog 10 #[.agg K.toArray, .string (bstr use), .slice A ss.length c] w1 fun e w' => e = .returned (.agg V.toArray) ∧ Below w1.heap.size w1 w' by
    rw [HK.out, hV]; exact fun w1 h2 => rkey_any key hk use A ss.length c ss w1 h2 rfl hall)
  obtain ⟨j0, hj0, _, _, _⟩ := info_parts infoByte
  have hE : ∀ w, (Op.equalIn 10000 23 (.agg V.toArray) (.agg V.toArray)).run Tryd.prog w = .ok true w := by
    intro w
    rw [hV, run_eq_bytes 23 32 j0 Tryd.underlying23 hj0 (keyD key use ss) (keyD key use ss) (length_keyD _ _ _) (length_keyD _ _ _) w]; simp
  have h200' : (bstr use).size ≤ 200 := by rw [hz]; omega
  have r0 := Row.new w 23 K
  generalize hU : bstr use = U at *
  clear h200 hu hz hzu hU hFl hF hV hall hss hk
  go_enter Tryd.func3, Tryd.ntmps3
  go_wp2_with (first
    | (go_at_call 5; refine (dalive_any _).mono ?_; rintro e w3 ⟨rfl, hb1⟩; have hb3 := hb0.trans (hb1.mono hb0.size); have hs3 := hs.later (Nat.le_refl _) hb3; have hT3 := hT.later hb3 (Nat.le_refl _); have r3 := r0.later hb1 r0.lt; clear hb1 hs r0 hb0)
    | (go_at_call 6; refine (hg.out _ hs3).mono ?_; rintro e w2 ⟨rfl, rfl⟩))
  refine wp_region_noPanic ?_
  refine wp_region_held_drew (S := fun w' => Below w3.heap.size w3 w') (by kernel_rfl) ((Below.refl _ _).drew) (fun hHeld => ?_)
  have hAll := hHeld
  refine rtake 0 _ (some 16) _ rfl rfl (by kernel_rfl) (by kernel_rfl) (by kernel_rfl) (fun _ _ _ h => h) (by rfl) hHeld (by intro w hS; go_simp; try with_reducible rfl) ?_
  try (rw [put_some]; dsimp only [List.set])
  refine rtake 3 _ (some 19) _ rfl rfl (by kernel_rfl) (by kernel_rfl) (by kernel_rfl) (fun _ _ _ h => h) (by rfl) hHeld (by intro w hS; go_simp; try with_reducible rfl) ?_
  try (rw [put_some]; dsimp only [List.set])
  refine wpAnyH_ready (rs := [1]) (by kernel_rfl) (by simp) (AllReadyH.cons (o := _) rfl (fun K hK => ?_) AllReadyH.nil)
  go_simp
  refine (hf1.out _ (hs3.later (Nat.le_refl _) hAll)).mono ?_; rintro e w4 ⟨v4, rfl, hown4, hb4⟩; obtain ⟨A4, c4, rfl, _, hsl4⟩ := Sl.of_own hown4; have hcv4 := conv_later hsl4 _ rfl; clear hown4
  try go_wp2_with fail
  refine hK.out _ _ (below_step hHeld hb4) (fun _ => ?_)
  clear hK K
  try (rw [put_some]; dsimp only [List.set])
  have hAll := below_step hAll hb4
  refine wpAnyH_narrow (S' := fun w' => Below w4.heap.size w4 w') (fun _ h => below_step (below_step hHeld hb4) h) _ _ _ _ ?_
  clear hHeld
  have hHeld : Below w4.heap.size w4 w4 := Below.refl _ _
  refine rtake 2 _ (some 18) _ rfl rfl (by kernel_rfl) (by kernel_rfl) (by kernel_rfl) (fun _ _ _ h => h) (by rfl) hHeld (by intro w hS; go_simp; try with_reducible rfl) ?_
  try (rw [put_some]; dsimp only [List.set])
  refine wpAnyH_ready (rs := [4]) (by kernel_rfl) (by simp) (AllReadyH.cons (o := _) rfl (fun K hK => ?_) AllReadyH.nil)
  go_simp
  refine (hf2.out _ (hs3.later (Nat.le_refl _) hAll)).mono ?_; rintro e w5 ⟨v5, rfl, hown5, hb5⟩; obtain ⟨A5, c5, rfl, _, hsl5⟩ := Sl.of_own hown5; have hcv5 := conv_later hsl5 _ rfl; clear hown5
  try go_wp2_with fail
  refine hK.out _ _ (below_step hHeld hb5) (fun _ => ?_)
  clear hK K
  try (rw [put_some]; dsimp only [List.set])
  have hAll := below_step hAll hb5
  refine wpAnyH_narrow (S' := fun w' => Below w5.heap.size w5 w') (fun _ h => below_step (below_step hHeld hb5) h) _ _ _ _ ?_
  clear hHeld
  have hHeld : Below w5.heap.size w5 w5 := Below.refl _ _
  refine rtake 5 _ (some 21) _ rfl rfl (by kernel_rfl) (by kernel_rfl) (by kernel_rfl) (fun _ _ _ h => h) (by rfl) hHeld (by intro w hS; go_simp; try with_reducible rfl) ?_
  try (rw [put_some]; dsimp only [List.set])
  refine rtake 6 _ (some 22) _ rfl rfl (by kernel_rfl) (by kernel_rfl) (by kernel_rfl) (fun _ _ _ h => h) (by rfl) hHeld (by intro w hS; go_simp; try with_reducible rfl) ?_
  try (rw [put_some]; dsimp only [List.set])
  refine rtake 7 _ (some 23) _ rfl rfl (by kernel_rfl) (by kernel_rfl) (by kernel_rfl) (fun _ _ _ h => h) (by rfl) hHeld (by intro w hS; go_simp; try with_reducible rfl) ?_
  try (rw [put_some]; dsimp only [List.set])
  refine rtake 8 _ (some 24) _ rfl rfl (by kernel_rfl) (by kernel_rfl) (by kernel_rfl) (fun _ _ _ h => h) (by rfl) hHeld (by intro w hS; exact run_load_op 23 (.tmp 3) rfl _ 0 rfl K _ (row_range ((r3.later hAll r3.lt).later hS (r3.later hAll r3.lt).lt)) Tryd.underlying23 rfl hszK.out) ?_
  try (rw [put_some]; dsimp only [List.set])
  refine rtake 9 _ (some 25) _ rfl rfl (by kernel_rfl) (by kernel_rfl) (by kernel_rfl) (fun _ _ _ h => h) (by rfl) hHeld (by intro w hS; go_simp; try with_reducible rfl) ?_
  try (rw [put_some]; dsimp only [List.set])
  refine rtake 10 _ (some 26) _ rfl rfl (by kernel_rfl) (by kernel_rfl) (by kernel_rfl) (fun _ _ _ h => h) (by rfl) hHeld (by intro w hS; go_simp; try with_reducible rfl) ?_
  try (rw [put_some]; dsimp only [List.set])
  refine rtake 12 _ (some 28) _ rfl rfl (by kernel_rfl) (by kernel_rfl) (by kernel_rfl) (fun _ _ _ h => h) (by rfl) hHeld (by intro w hS; exact run_load_op 23 (.tmp 3) rfl _ 0 rfl K _ (row_range ((r3.later hAll r3.lt).later hS (r3.later hAll r3.lt).lt)) Tryd.underlying23 rfl hszK.out) ?_
  try (rw [put_some]; dsimp only [List.set])
  refine rtake 13 _ (some 29) _ rfl rfl (by kernel_rfl) (by kernel_rfl) (by kernel_rfl) (fun _ _ _ h => h) (by rfl) hHeld (by intro w hS; go_simp; try with_reducible rfl) ?_
  try (rw [put_some]; dsimp only [List.set])
  refine rtake 14 _ (some 30) _ rfl rfl (by kernel_rfl) (by kernel_rfl) (by kernel_rfl) (fun _ _ _ h => h) (by rfl) hHeld (by intro w hS; go_simp; try with_reducible rfl) ?_
  try (rw [put_some]; dsimp only [List.set])
  refine wpAnyH_ready (rs := [11]) (by kernel_rfl) (by simp) (AllReadyH.cons (o := _) rfl (fun K hK => ?_) AllReadyH.nil)
  go_simp
  refine (hk1.out _ (hT3.later hAll (Nat.le_refl _)) (hs3.later (Nat.le_refl _) hAll)).mono ?_; rintro e w6 ⟨rfl, hb6⟩
  try go_wp2_with fail
  refine hK.out _ _ (below_step hHeld hb6) (fun _ => ?_)
  clear hK K
  try (rw [put_some]; dsimp only [List.set])
  have hAll := below_step hAll hb6
  refine wpAnyH_narrow (S' := fun w' => Below w6.heap.size w6 w') (fun _ h => below_step (below_step hHeld hb6) h) _ _ _ _ ?_
  clear hHeld
  have hHeld : Below w6.heap.size w6 w6 := Below.refl _ _
  refine wpAnyH_ready (rs := [15]) (by kernel_rfl) (by simp) (AllReadyH.cons (o := _) rfl (fun K hK => ?_) AllReadyH.nil)
  go_simp
  refine (hk2.out _ (hs3.later (Nat.le_refl _) hAll)).mono ?_; rintro e w7 ⟨rfl, hb7⟩
  try go_wp2_with fail
  refine hK.out _ _ (below_step hHeld hb7) (fun _ => ?_)
  clear hK K
  try (rw [put_some]; dsimp only [List.set])
  have hAll := below_step hAll hb7
  refine wpAnyH_narrow (S' := fun w' => Below w7.heap.size w7 w') (fun _ h => below_step (below_step hHeld hb7) h) _ _ _ _ ?_
  clear hHeld
  have hHeld : Below w7.heap.size w7 w7 := Below.refl _ _
  refine rtake 16 _ (some 32) _ rfl rfl (by kernel_rfl) (by kernel_rfl) (by kernel_rfl) (fun _ _ _ h => h) (by rfl) hHeld (by intro w hS; go_simp; try with_reducible rfl) ?_
  try (rw [put_some]; dsimp only [List.set])
  refine rtake 17 _ (some 33) _ rfl rfl (by kernel_rfl) (by kernel_rfl) (by kernel_rfl) (fun _ _ _ h => h) (by rfl) hHeld (by intro w hS; go_simp; try with_reducible rfl) ?_
  try (rw [put_some]; dsimp only [List.set])
  refine rtake 18 _ (some 6) _ rfl rfl (by kernel_rfl) (by kernel_rfl) (by kernel_rfl) (fun _ _ _ h => h) (by rfl) hHeld (by intro w hS; go_simp; try with_reducible rfl) ?_
  try (rw [put_some]; dsimp only [List.set])
  refine wpAnyH_done (by kernel_rfl) ?_ _
  refine NoPanic.normal ?_
  clear hk1 hk2 hf1 hf2 hg hE hcv4 hcv5
  go_wp2
  go_ret
  exact ⟨rfl, hb3.trans (hAll.mono hb3.size)⟩
end Go.Proofs.YtefbopgbikmohaaDoor
