/- LAYER 10: package packet: numbered, flag, fields, Caveat. -/
import Derived.Test.YthiebbhooigogaaCn
import Derived.Test.YthiebbhooigogaaBt
import Derived.Test.YthiebbhooigogaaGr
import Derived.Test.YthiebbhooigogaaFk
namespace Go.Proofs.Ythiebbhooigogaa
open Go Go.RowKit

theorem pnumbered_any (n : Nat) (h : n < 18446744073709551616) (w : World) :
    Calls Try.prog 48 #[.int .u64 n] w fun e w' => e = .returned (.string (bstr (varL n))) ∧ Below w.heap.size w w' := by
  have hv := Lib.hid (show ∀ w1, Calls Try.prog 51 #[.slice none 0 0, .int .u64 n] w1 (GaveBytes (varL n) w1) from fun w1 => vput_any none 0 0 [] n h w1 ⟨.inl rfl, Nat.le_refl _, fun _ => rfl⟩ rfl (by decide))
  go_enter Try.func48, Try.ntmps48
  go_wp2_with (go_at_call 51; refine (hv.out _).mono ?_; rintro e w1 ⟨v1, rfl, hown1, hb1⟩; obtain ⟨A1, c1, rfl, _, hsl1⟩ := Sl.of_own hown1; have hcv := conv_bytes hsl1 _ rfl; clear hown1 hsl1)
  go_ret
  exact ⟨rfl, hb1⟩
theorem pflag_any (b : Bool) (w : World) :
    Calls Try.prog 50 #[.bool b] w fun e w' => e = .returned (.string (bstr [if b then 1 else 0])) ∧ w' = w := by
  cases b
  all_goals go_enter Try.func50, Try.ntmps50
  all_goals go_wp2
  all_goals go_ret
  all_goals exact ⟨rfl, rfl⟩
set_option maxRecDepth 20000 in
set_option maxHeartbeats 1000000 in
theorem pfields_any (c : Cav) (hp : c.party < 18446744073709551616) (w : World) :
    Calls Try.prog 49 #[.agg (cavV c).toArray] w fun e w' => ∃ A d, e = .returned (.slice A (cavF c).length d) ∧ Sl w' A (d * 2) ((cavF c).flatMap fdV) ∧ Below w.heap.size w w' := by
  obtain ⟨third, text, party, id, vault⟩ := c
  have hnum := Lib.hid (pnumbered_any party hp)
  have hb1 : Below w.heap.size w (w.alloc (.cells (cavV ⟨third, text, party, id, vault⟩).toArray 51)) := (Below.refl _ _).alloc (Nat.le_refl _) _
  have hr : Row (w.alloc (.cells (cavV ⟨third, text, party, id, vault⟩).toArray 51)) w.heap.size 51 (cavV ⟨third, text, party, id, vault⟩) := Row.new w 51 _
  unfold cavV at *
  cases third
  · go_enter Try.func49, Try.ntmps49
    go_wp2
    go_ret
    exact ⟨_, 1, rfl, ⟨Rd.block (fr := (0, 0)) (t := 55) (heap_alloc2_new w _ _), Nat.le_refl _, fun h => by cases h⟩, hb1.alloc hb1.size _⟩
  · go_enter Try.func49, Try.ntmps49
    go_wp2_with fail
    generalize hw1 : World.alloc w _ = w1 at hb1 hr ⊢
    clear hw1
    have hc0 : ∀ w', Below w1.heap.size w1 w' → w'.cell? ⟨w.heap.size, 2, none⟩ = some (.int .u64 party) := fun w' h => by rw [(hr.later h hr.lt).cell]; rfl
    have hc1 : ∀ w', Below w1.heap.size w1 w' → w'.cell? ⟨w.heap.size, 3, none⟩ = some (.string (bstr id)) := fun w' h => by rw [(hr.later h hr.lt).cell]; rfl
    have hc2 : ∀ w', Below w1.heap.size w1 w' → w'.cell? ⟨w.heap.size, 4, none⟩ = some (.string (bstr vault)) := fun w' h => by rw [(hr.later h hr.lt).cell]; rfl
    refine wp_region_noPanic ?_
    refine wp_region_held_drew (S := fun w' => Below w1.heap.size w1 w') (by kernel_rfl) ((Below.refl _ _).drew) (fun hHeld => ?_)
    refine rtake 0 _ (some 10) _ rfl rfl (by kernel_rfl) (by kernel_rfl) (by kernel_rfl) (fun _ _ _ h => h) (by rfl) hHeld (by intro w hS; go_simp; try with_reducible rfl) ?_
    try (first | (rw [put_some]; dsimp only [List.set]) | rw [put_none])
    refine rtake 1 _ (some 11) _ rfl rfl (by kernel_rfl) (by kernel_rfl) (by kernel_rfl) (fun _ _ _ h => h) (by rfl) hHeld (by intro w hS; go_simp; try with_reducible rfl) ?_
    try (first | (rw [put_some]; dsimp only [List.set]) | rw [put_none])
    refine rtake 4 _ (some 14) _ rfl rfl (by kernel_rfl) (by kernel_rfl) (by kernel_rfl) (fun _ _ _ h => h) (by rfl) hHeld (by intro w hS; go_simp; try with_reducible rfl) ?_
    try (first | (rw [put_some]; dsimp only [List.set]) | rw [put_none])
    refine rtake 5 _ (some 15) _ rfl rfl (by kernel_rfl) (by kernel_rfl) (by kernel_rfl) (fun _ _ _ h => h) (by rfl) hHeld (by intro w hS; go_simp; try with_reducible rfl) ?_
    try (first | (rw [put_some]; dsimp only [List.set]) | rw [put_none])
    refine rtake 6 _ (some 16) _ rfl rfl (by kernel_rfl) (by kernel_rfl) (by kernel_rfl) (fun _ _ _ h => h) (by rfl) hHeld (by intro w hS; go_simp; try with_reducible rfl) ?_
    try (first | (rw [put_some]; dsimp only [List.set]) | rw [put_none])
    refine rtake 7 _ (some 17) _ rfl rfl (by kernel_rfl) (by kernel_rfl) (by kernel_rfl) (fun _ _ _ h => h) (by rfl) hHeld (by intro w hS; go_simp; try with_reducible rfl) ?_
    try (first | (rw [put_some]; dsimp only [List.set]) | rw [put_none])
    refine rtake 8 _ (some 18) _ rfl rfl (by kernel_rfl) (by kernel_rfl) (by kernel_rfl) (fun _ _ _ h => h) (by rfl) hHeld (by intro w hS; go_simp; try with_reducible rfl) ?_
    try (first | (rw [put_some]; dsimp only [List.set]) | rw [put_none])
    refine rtake 9 _ (some 19) _ rfl rfl (by kernel_rfl) (by kernel_rfl) (by kernel_rfl) (fun _ _ _ h => h) (by rfl) hHeld (by intro w hS; go_simp; try with_reducible rfl) ?_
    try (first | (rw [put_some]; dsimp only [List.set]) | rw [put_none])
    refine wpAnyH_ready (rs := [2]) (by kernel_rfl) (by simp) (AllReadyH.cons (o := _) rfl (fun K hK => ?_) AllReadyH.nil)
    go_simp
    refine (hnum.out _).mono ?_; rintro e w2 ⟨rfl, hb2⟩; have hq2 := hHeld.trans (hb2.mono hHeld.size)
    try go_wp2_with fail
    refine hK.out _ _ (hq2) (fun hHeld => ?_)
    clear hK K
    try (first | (rw [put_some]; dsimp only [List.set]) | rw [put_none])
    refine rtake 3 _ (some 13) _ rfl rfl (by kernel_rfl) (by kernel_rfl) (by kernel_rfl) (fun _ _ _ h => h) (by rfl) hHeld (by intro w hS; go_simp; try with_reducible rfl) ?_
    try (first | (rw [put_some]; dsimp only [List.set]) | rw [put_none])
    refine wpAnyH_ready (rs := [10]) (by kernel_rfl) (by simp) (AllReadyH.cons (o := _) rfl (fun K hK => ?_) AllReadyH.nil)
    refine step_alloc (some 20) rfl (by rfl) (.slice (some ⟨w2.heap.size, 0, none⟩) 3 3) (.cells (([(4, varL party), (5, id), (6, vault)] : List Fd).flatMap fdV).toArray 55) (by go_simp; try rfl) ?_; intro w3 hw3 hb3; have hsl : Sl w3 (some ⟨w2.heap.size, 0, none⟩) (3 * 2) (([(4, varL party), (5, id), (6, vault)] : List Fd).flatMap fdV) := (by rw [hw3]; exact ⟨Rd.block (Go.heap_alloc_new w2 _), Nat.le_refl _, fun h => by cases h⟩); have hq3 := hHeld.trans (hb3.mono hHeld.size); clear hw3
    refine hK.out _ _ (hq3) (fun hHeld => ?_)
    clear hK K
    try (first | (rw [put_some]; dsimp only [List.set]) | rw [put_none])
    refine rtake 11 _ (some 2) _ rfl rfl (by kernel_rfl) (by kernel_rfl) (by kernel_rfl) (fun _ _ _ h => h) (by rfl) hHeld (by intro w hS; go_simp; try with_reducible rfl) ?_
    try (first | (rw [put_some]; dsimp only [List.set]) | rw [put_none])
    refine wpAnyH_done (by kernel_rfl) ?_ _
    refine NoPanic.normal ?_
    go_wp2
    go_ret
    exact ⟨_, 3, rfl, hsl, hb1.trans (hq3.mono hb1.size)⟩
theorem joinL_cav {c : Cav} (hm : capC c ≤ 100000) : (joinL (cavF c)).length ≤ 1000000 := by
  unfold capC at hm
  have h := fieldsL_len 100000 (cavF c) (fun f hf => by
    have hv := length_varL c.party
    unfold cavF at hf
    by_cases ht : c.third = true
    · rw [if_pos ht] at hf
      simp only [List.mem_cons, List.not_mem_nil, or_false] at hf
      rcases hf with rfl | rfl | rfl
      · show (varL c.party).length ≤ 100000; omega
      · show c.id.length ≤ 100000; omega
      · show c.vault.length ≤ 100000; omega
    · rw [if_neg ht] at hf
      rw [List.mem_singleton.1 hf]
      show c.text.length ≤ 100000; omega)
  have h3 := cavF_len c
  have : (cavF c).length * (100000 + 11) ≤ 3 * (100000 + 11) := Nat.mul_le_mul_right _ h3
  omega
end Go.Proofs.Ythiebbhooigogaa
