/- LAYER 2, BlockPads: the walk of the law. -/
import Derived.Test.YtflapjnjmolhfaaPad
import Derived.Test.YtflapjnjmolhfaaS
namespace Go.Proofs.Ytflapjnjmolhfaa
open Go.RowKit

theorem pads_walk (m : Nat) (w : World) :
    Calls Try.prog 3 #[.int .u64 m] w fun e w' => e = .returned (.bool true) ∧ Below w.heap.size w w' := by
  go_enter Try.func3, Try.ntmps3
  go_wp2_with (go_at_call 6; refine (balive_any _).mono ?_; rintro e w1 ⟨rfl, hbel1⟩)
  refine wp_region_noPanic ?_
  refine wp_region_held_drew (S := fun w' => Below w1.heap.size w1 w') (by kernel_rfl) ((Below.refl _ _).drew) (fun hHeld => ?_)
  have hAll := hHeld
  refine rtake 0 _ (some 5) _ rfl rfl (by kernel_rfl) (by kernel_rfl) (by kernel_rfl) (fun _ _ _ h => h) (by rfl) hHeld (by intro w hS; go_simp; try with_reducible rfl) ?_
  try (rw [put_some]; dsimp only [List.set])
  refine rtake 3 _ (some 8) _ rfl rfl (by kernel_rfl) (by kernel_rfl) (by kernel_rfl) (fun _ _ _ h => h) (by rfl) hHeld (by intro w hS; go_simp; try with_reducible rfl) ?_
  try (rw [put_some]; dsimp only [List.set])
  refine wpAnyH_ready (rs := [1]) (by kernel_rfl) (by simp) (AllReadyH.cons (o := _) rfl (fun K hK => ?_) AllReadyH.nil)
  go_simp
  refine (pad_any m _).mono ?_; rintro e w2 ⟨v2, rfl, hown2, hb2⟩; obtain ⟨A2, c2, rfl, _, hsl2⟩ := Sl.of_own hown2; have hcv2 := conv_later hsl2 _ rfl; clear hown2
  try go_wp2_with fail
  refine hK.out _ _ (below_step hHeld hb2) (fun _ => ?_)
  clear hK K
  try (rw [put_some]; dsimp only [List.set])
  have hAll := below_step hAll hb2
  refine wpAnyH_narrow (S' := fun w' => Below w2.heap.size w2 w') (fun _ h => below_step (below_step hHeld hb2) h) _ _ _ _ ?_
  clear hHeld
  have hHeld : Below w2.heap.size w2 w2 := Below.refl _ _
  refine rtake 2 _ (some 7) _ rfl rfl (by kernel_rfl) (by kernel_rfl) (by kernel_rfl) (fun _ _ _ h => h) (by rfl) hHeld (by intro w hS; go_simp; try with_reducible rfl) ?_
  try (rw [put_some]; dsimp only [List.set])
  refine wpAnyH_ready (rs := [4]) (by kernel_rfl) (by simp) (AllReadyH.cons (o := _) rfl (fun K hK => ?_) AllReadyH.nil)
  go_simp
  refine (rpad_any m _).mono ?_; rintro e w3 ⟨v3, rfl, hown3, hb3⟩; obtain ⟨A3, c3, rfl, _, hsl3⟩ := Sl.of_own hown3; have hcv3 := conv_later hsl3 _ rfl; clear hown3
  try go_wp2_with fail
  refine hK.out _ _ (below_step hHeld hb3) (fun _ => ?_)
  clear hK K
  try (rw [put_some]; dsimp only [List.set])
  have hAll := below_step hAll hb3
  refine wpAnyH_narrow (S' := fun w' => Below w3.heap.size w3 w') (fun _ h => below_step (below_step hHeld hb3) h) _ _ _ _ ?_
  clear hHeld
  have hHeld : Below w3.heap.size w3 w3 := Below.refl _ _
  refine rtake 5 _ (some 10) _ rfl rfl (by kernel_rfl) (by kernel_rfl) (by kernel_rfl) (fun _ _ _ h => h) (by rfl) hHeld (by intro w hS; go_simp; try with_reducible rfl) ?_
  try (rw [put_some]; dsimp only [List.set])
  refine rtake 6 _ (some 11) _ rfl rfl (by kernel_rfl) (by kernel_rfl) (by kernel_rfl) (fun _ _ _ h => h) (by rfl) hHeld (by intro w hS; go_simp; try with_reducible rfl) ?_
  try (rw [put_some]; dsimp only [List.set])
  refine rtake 7 _ (some 12) _ rfl rfl (by kernel_rfl) (by kernel_rfl) (by kernel_rfl) (fun _ _ _ h => h) (by rfl) hHeld (by intro w hS; go_simp; try with_reducible rfl) ?_
  try (rw [put_some]; dsimp only [List.set])
  refine rtake 8 _ (some 13) _ rfl rfl (by kernel_rfl) (by kernel_rfl) (by kernel_rfl) (fun _ _ _ h => h) (by rfl) hHeld (by intro w hS; go_simp; try with_reducible rfl) ?_
  try (rw [put_some]; dsimp only [List.set])
  refine rtake 9 _ (some 2) _ rfl rfl (by kernel_rfl) (by kernel_rfl) (by kernel_rfl) (fun _ _ _ h => h) (by rfl) hHeld (by intro w hS; go_simp; try with_reducible rfl) ?_
  try (rw [put_some]; dsimp only [List.set])
  refine wpAnyH_done (by kernel_rfl) ?_ _
  refine NoPanic.normal ?_
  go_wp2
  go_ret
  exact ⟨rfl, below_step hbel1 hAll⟩
end Go.Proofs.Ytflapjnjmolhfaa
