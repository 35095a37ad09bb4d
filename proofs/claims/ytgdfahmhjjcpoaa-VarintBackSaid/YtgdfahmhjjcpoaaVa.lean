/- LAYER 8: varintAlive. -/
import Derived.Test.YtgdfahmhjjcpoaaVk
namespace Go.Proofs.Ytgdfahmhjjcpoaa
open Go Go.RowKit

theorem Sl.made {w w' : World} {t : TypeId} (xs : List Value) (h : w' = w.alloc (.cells xs.toArray t)) (n : Nat) (hn : xs.length = n) : Sl w' (some ⟨w.heap.size, 0, none⟩) n xs := by
  subst h hn
  exact ⟨Rd.row (ys := []) (by rw [List.append_nil]; exact Row.new w t xs), Nat.le_refl _, fun h => by cases h⟩
theorem alive_get : getL [172, 2, 9] = (300, 2) := by decide +kernel
theorem alive_put : varL 300 = [172, 2] := by decide +kernel
set_option maxRecDepth 20000 in
set_option maxHeartbeats 1000000 in
theorem valive_any (w : World) :
    Calls Try.prog 5 #[] w fun e w' => e = .returned (.bool true) ∧ Below w.heap.size w w' := by
  have hput := Lib.hid (show ∀ w1, Calls Try.prog 8 #[.slice none 0 0, .int .u64 300] w1 (GaveBytes [172, 2] w1) by
    intro w1
    have h := vput_any none 0 0 [] 300 (by omega) w1 ⟨.inl rfl, Nat.le_refl _, fun _ => rfl⟩ rfl (by decide)
    rw [List.nil_append, alive_put] at h
    exact h)
  have hget := Lib.hid (show ∀ w1 A, Sl w1 A 3 (byts [172, 2, 9]) → Calls Try.prog 6 #[.slice A 3 3] w1 fun e w' => e = .returned (.tuple #[.int .u64 300, .int .i64 2]) ∧ Below w1.heap.size w1 w' by
    intro w1 A hs
    have h := vget_any A 3 3 [172, 2, 9] w1 hs rfl (by decide)
    rw [alive_get] at h
    exact h)
  have hsl0 : Sl (w.alloc (.cells #[.int .u8 172, .int .u8 2, .int .u8 9] 5)) (some ⟨w.heap.size, 0, none⟩) 3 (byts [172, 2, 9]) := Sl.made (byts [172, 2, 9]) rfl 3 rfl
  have hb0 := (Below.refl w.heap.size w).alloc (Nat.le_refl _) (.cells #[.int .u8 172, .int .u8 2, .int .u8 9] 5)
  go_enter Try.func5, Try.ntmps5
  go_wp2_with (go_at_call 6; refine (hget.out _ _ hsl0).mono ?_; rintro e w3 ⟨rfl, hb3⟩; have hbw3 := hb0.trans (hb3.mono hb0.size); clear hb0 hb3 hsl0)
  refine wp_region_noPanic ?_
  refine wp_region_held_drew (S := fun w' => Below w3.heap.size w3 w') (by kernel_rfl) ((Below.refl _ _).drew) (fun hHeld => ?_)
  have hB := hHeld
  refine wpAnyH_ready (rs := [0, 2]) (by kernel_rfl) (by simp) (AllReadyH.cons (o := _) rfl (fun K hK => ?_) (AllReadyH.cons (o := _) rfl (fun K hK => ?_) AllReadyH.nil))
  · go_simp
    refine (hput.out _).mono ?_; rintro e ww30 ⟨v, rfl, hownP, hqw30⟩; obtain ⟨AP, cP, rfl, _, hslP⟩ := Sl.of_own hownP; clear hownP
    try go_wp2_with fail
    refine hK.out _ _ (hHeld.trans (hqw30.mono hHeld.size)) (fun hHeld' => ?_)
    clear hK K
    try (first | (rw [put_some]; dsimp only [List.set]) | rw [put_none])
    have hB := below_step hB hqw30
    have hB0 : Below ww30.heap.size ww30 ww30 := Below.refl _ _
    refine wpAnyH_narrow (S' := fun w' => Below ww30.heap.size ww30 w') (fun _ h => (hHeld.trans (hqw30.mono hHeld.size)).trans (h.mono (hHeld.trans (hqw30.mono hHeld.size)).size)) _ _ _ _ ?_
    clear hHeld
    have hHeld : Below ww30.heap.size ww30 ww30 := Below.refl _ _
    have hcvP := conv_later (hslP.later (Nat.le_refl _) hB0) 2 rfl
    refine rtake 1 _ (some 9) _ rfl rfl (by kernel_rfl) (by kernel_rfl) (by kernel_rfl) (fun _ _ _ h => h) (by rfl) hHeld (by intro w hS; go_simp; try with_reducible rfl) ?_
    try (first | (rw [put_some]; dsimp only [List.set]) | rw [put_none])
    refine wpAnyH_ready (rs := [2]) (by kernel_rfl) (by simp) (AllReadyH.cons (o := _) rfl (fun K hK => ?_) AllReadyH.nil)
    refine step_alloc (some 10) rfl (by rfl) (.slice (some ⟨ww30.heap.size, 0, none⟩) 2 2) (.cells (byts [172, 2]).toArray 5) (by go_simp; try rfl) ?_; intro ww32 hw hqw32; have hslL : Sl ww32 (some ⟨ww30.heap.size, 0, none⟩) 2 (byts [172, 2]) := Sl.made (byts [172, 2]) hw 2 rfl; clear hw
    refine hK.out _ _ (hHeld.trans (hqw32.mono hHeld.size)) (fun hHeld' => ?_)
    clear hK K
    try (first | (rw [put_some]; dsimp only [List.set]) | rw [put_none])
    have hB := below_step hB hqw32
    have hB0 := below_step hB0 hqw32
    have hB2 : Below ww32.heap.size ww32 ww32 := Below.refl _ _
    refine wpAnyH_narrow (S' := fun w' => Below ww32.heap.size ww32 w') (fun _ h => (hHeld.trans (hqw32.mono hHeld.size)).trans (h.mono (hHeld.trans (hqw32.mono hHeld.size)).size)) _ _ _ _ ?_
    clear hHeld
    have hHeld : Below ww32.heap.size ww32 ww32 := Below.refl _ _
    have hcvL := conv_later (hslL.later (Nat.le_refl _) hB2) 2 rfl
    refine rtake 3 _ (some 11) _ rfl rfl (by kernel_rfl) (by kernel_rfl) (by kernel_rfl) (fun _ _ _ h => h) (by rfl) hHeld (by intro w hS; go_simp; try with_reducible rfl) ?_
    try (first | (rw [put_some]; dsimp only [List.set]) | rw [put_none])
    refine rtake 4 _ (some 12) _ rfl rfl (by kernel_rfl) (by kernel_rfl) (by kernel_rfl) (fun _ _ _ h => h) (by rfl) hHeld (by intro w hS; go_simp; try with_reducible rfl) ?_
    try (first | (rw [put_some]; dsimp only [List.set]) | rw [put_none])
    refine rtake 5 _ (some 13) _ rfl rfl (by kernel_rfl) (by kernel_rfl) (by kernel_rfl) (fun _ _ _ h => h) (by rfl) hHeld (by intro w hS; go_simp; try with_reducible rfl) ?_
    try (first | (rw [put_some]; dsimp only [List.set]) | rw [put_none])
    refine rtake 6 _ (some 14) _ rfl rfl (by kernel_rfl) (by kernel_rfl) (by kernel_rfl) (fun _ _ _ h => h) (by rfl) hHeld (by intro w hS; go_simp; try with_reducible rfl) ?_
    try (first | (rw [put_some]; dsimp only [List.set]) | rw [put_none])
    refine rtake 7 _ (some 15) _ rfl rfl (by kernel_rfl) (by kernel_rfl) (by kernel_rfl) (fun _ _ _ h => h) (by rfl) hHeld (by intro w hS; go_simp; try with_reducible rfl) ?_
    try (first | (rw [put_some]; dsimp only [List.set]) | rw [put_none])
    refine rtake 8 _ (some 16) _ rfl rfl (by kernel_rfl) (by kernel_rfl) (by kernel_rfl) (fun _ _ _ h => h) (by rfl) hHeld (by intro w hS; go_simp; try with_reducible rfl) ?_
    try (first | (rw [put_some]; dsimp only [List.set]) | rw [put_none])
    refine rtake 9 _ (some 17) _ rfl rfl (by kernel_rfl) (by kernel_rfl) (by kernel_rfl) (fun _ _ _ h => h) (by rfl) hHeld (by intro w hS; go_simp; try with_reducible rfl) ?_
    try (first | (rw [put_some]; dsimp only [List.set]) | rw [put_none])
    refine rtake 10 _ (some 18) _ rfl rfl (by kernel_rfl) (by kernel_rfl) (by kernel_rfl) (fun _ _ _ h => h) (by rfl) hHeld (by intro w hS; go_simp; try with_reducible rfl) ?_
    try (first | (rw [put_some]; dsimp only [List.set]) | rw [put_none])
    refine rtake 11 _ (some 19) _ rfl rfl (by kernel_rfl) (by kernel_rfl) (by kernel_rfl) (fun _ _ _ h => h) (by rfl) hHeld (by intro w hS; go_simp; try with_reducible rfl) ?_
    try (first | (rw [put_some]; dsimp only [List.set]) | rw [put_none])
    refine rtake 12 _ (some 20) _ rfl rfl (by kernel_rfl) (by kernel_rfl) (by kernel_rfl) (fun _ _ _ h => h) (by rfl) hHeld (by intro w hS; go_simp; try with_reducible rfl) ?_
    try (first | (rw [put_some]; dsimp only [List.set]) | rw [put_none])
    refine rtake 13 _ (some 0) _ rfl rfl (by kernel_rfl) (by kernel_rfl) (by kernel_rfl) (fun _ _ _ h => h) (by rfl) hHeld (by intro w hS; go_simp; try with_reducible rfl) ?_
    try (first | (rw [put_some]; dsimp only [List.set]) | rw [put_none])
    refine wpAnyH_done (by kernel_rfl) ?_ _
    refine NoPanic.normal ?_
    have hB3 := hbw3.trans (hB.mono hbw3.size)
    clear hcvP hcvL hslP hslL hHeld
    go_wp2
    go_ret
    exact ⟨rfl, hB3⟩
  · refine step_alloc (some 10) rfl (by rfl) (.slice (some ⟨w3.heap.size, 0, none⟩) 2 2) (.cells (byts [172, 2]).toArray 5) (by go_simp; try rfl) ?_; intro ww32 hw hqw32; have hslL : Sl ww32 (some ⟨w3.heap.size, 0, none⟩) 2 (byts [172, 2]) := Sl.made (byts [172, 2]) hw 2 rfl; clear hw
    refine hK.out _ _ (hHeld.trans (hqw32.mono hHeld.size)) (fun hHeld' => ?_)
    clear hK K
    try (first | (rw [put_some]; dsimp only [List.set]) | rw [put_none])
    have hB := below_step hB hqw32
    have hB2 : Below ww32.heap.size ww32 ww32 := Below.refl _ _
    refine wpAnyH_narrow (S' := fun w' => Below ww32.heap.size ww32 w') (fun _ h => (hHeld.trans (hqw32.mono hHeld.size)).trans (h.mono (hHeld.trans (hqw32.mono hHeld.size)).size)) _ _ _ _ ?_
    clear hHeld
    have hHeld : Below ww32.heap.size ww32 ww32 := Below.refl _ _
    have hcvL := conv_later (hslL.later (Nat.le_refl _) hB2) 2 rfl
    refine rtake 3 _ (some 11) _ rfl rfl (by kernel_rfl) (by kernel_rfl) (by kernel_rfl) (fun _ _ _ h => h) (by rfl) hHeld (by intro w hS; go_simp; try with_reducible rfl) ?_
    try (first | (rw [put_some]; dsimp only [List.set]) | rw [put_none])
    refine wpAnyH_ready (rs := [0]) (by kernel_rfl) (by simp) (AllReadyH.cons (o := _) rfl (fun K hK => ?_) AllReadyH.nil)
    go_simp
    refine (hput.out _).mono ?_; rintro e ww30 ⟨v, rfl, hownP, hqw30⟩; obtain ⟨AP, cP, rfl, _, hslP⟩ := Sl.of_own hownP; clear hownP
    try go_wp2_with fail
    refine hK.out _ _ (hHeld.trans (hqw30.mono hHeld.size)) (fun hHeld' => ?_)
    clear hK K
    try (first | (rw [put_some]; dsimp only [List.set]) | rw [put_none])
    have hB := below_step hB hqw30
    have hB2 := below_step hB2 hqw30
    have hB0 : Below ww30.heap.size ww30 ww30 := Below.refl _ _
    refine wpAnyH_narrow (S' := fun w' => Below ww30.heap.size ww30 w') (fun _ h => (hHeld.trans (hqw30.mono hHeld.size)).trans (h.mono (hHeld.trans (hqw30.mono hHeld.size)).size)) _ _ _ _ ?_
    clear hHeld
    have hHeld : Below ww30.heap.size ww30 ww30 := Below.refl _ _
    have hcvP := conv_later (hslP.later (Nat.le_refl _) hB0) 2 rfl
    refine rtake 1 _ (some 9) _ rfl rfl (by kernel_rfl) (by kernel_rfl) (by kernel_rfl) (fun _ _ _ h => h) (by rfl) hHeld (by intro w hS; go_simp; try with_reducible rfl) ?_
    try (first | (rw [put_some]; dsimp only [List.set]) | rw [put_none])
    refine rtake 4 _ (some 12) _ rfl rfl (by kernel_rfl) (by kernel_rfl) (by kernel_rfl) (fun _ _ _ h => h) (by rfl) hHeld (by intro w hS; go_simp; try with_reducible rfl) ?_
    try (first | (rw [put_some]; dsimp only [List.set]) | rw [put_none])
    refine rtake 5 _ (some 13) _ rfl rfl (by kernel_rfl) (by kernel_rfl) (by kernel_rfl) (fun _ _ _ h => h) (by rfl) hHeld (by intro w hS; go_simp; try with_reducible rfl) ?_
    try (first | (rw [put_some]; dsimp only [List.set]) | rw [put_none])
    refine rtake 6 _ (some 14) _ rfl rfl (by kernel_rfl) (by kernel_rfl) (by kernel_rfl) (fun _ _ _ h => h) (by rfl) hHeld (by intro w hS; go_simp; try with_reducible rfl) ?_
    try (first | (rw [put_some]; dsimp only [List.set]) | rw [put_none])
    refine rtake 7 _ (some 15) _ rfl rfl (by kernel_rfl) (by kernel_rfl) (by kernel_rfl) (fun _ _ _ h => h) (by rfl) hHeld (by intro w hS; go_simp; try with_reducible rfl) ?_
    try (first | (rw [put_some]; dsimp only [List.set]) | rw [put_none])
    refine rtake 8 _ (some 16) _ rfl rfl (by kernel_rfl) (by kernel_rfl) (by kernel_rfl) (fun _ _ _ h => h) (by rfl) hHeld (by intro w hS; go_simp; try with_reducible rfl) ?_
    try (first | (rw [put_some]; dsimp only [List.set]) | rw [put_none])
    refine rtake 9 _ (some 17) _ rfl rfl (by kernel_rfl) (by kernel_rfl) (by kernel_rfl) (fun _ _ _ h => h) (by rfl) hHeld (by intro w hS; go_simp; try with_reducible rfl) ?_
    try (first | (rw [put_some]; dsimp only [List.set]) | rw [put_none])
    refine rtake 10 _ (some 18) _ rfl rfl (by kernel_rfl) (by kernel_rfl) (by kernel_rfl) (fun _ _ _ h => h) (by rfl) hHeld (by intro w hS; go_simp; try with_reducible rfl) ?_
    try (first | (rw [put_some]; dsimp only [List.set]) | rw [put_none])
    refine rtake 11 _ (some 19) _ rfl rfl (by kernel_rfl) (by kernel_rfl) (by kernel_rfl) (fun _ _ _ h => h) (by rfl) hHeld (by intro w hS; go_simp; try with_reducible rfl) ?_
    try (first | (rw [put_some]; dsimp only [List.set]) | rw [put_none])
    refine rtake 12 _ (some 20) _ rfl rfl (by kernel_rfl) (by kernel_rfl) (by kernel_rfl) (fun _ _ _ h => h) (by rfl) hHeld (by intro w hS; go_simp; try with_reducible rfl) ?_
    try (first | (rw [put_some]; dsimp only [List.set]) | rw [put_none])
    refine rtake 13 _ (some 0) _ rfl rfl (by kernel_rfl) (by kernel_rfl) (by kernel_rfl) (fun _ _ _ h => h) (by rfl) hHeld (by intro w hS; go_simp; try with_reducible rfl) ?_
    try (first | (rw [put_some]; dsimp only [List.set]) | rw [put_none])
    refine wpAnyH_done (by kernel_rfl) ?_ _
    refine NoPanic.normal ?_
    have hB3 := hbw3.trans (hB.mono hbw3.size)
    clear hcvP hcvL hslP hslL hHeld
    go_wp2
    go_ret
    exact ⟨rfl, hB3⟩
end Go.Proofs.Ytgdfahmhjjcpoaa
