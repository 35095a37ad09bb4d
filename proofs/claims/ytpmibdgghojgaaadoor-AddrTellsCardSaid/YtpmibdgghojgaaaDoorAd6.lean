/- LAYER 12: package addr: sixText. -/
import Derived.Test.YtpmibdgghojgaaaDoorAd5
namespace Go.Proofs.YtpmibdgghojgaaaDoor
set_option maxRecDepth 100000
open Go Go.RowKit

theorem bestL_le : ∀ a b c d e f g h : Bool, bestB [a, b, c, d, e, f, g, h] + zB ([a, b, c, d, e, f, g, h].drop (bestB [a, b, c, d, e, f, g, h])) ≤ 8 := by decide
theorem best_le (l : List Nat) (h8 : l.length = 8) : bestL l + zerosL (l.drop (bestL l)) ≤ 8 := by
  rw [← bestB_eq, ← zB_eq, List.map_drop]
  obtain ⟨a, b, c, d, e, f, g, h, rfl⟩ := eight_of l h8
  exact bestL_le _ _ _ _ _ _ _ _
theorem cut_hw8 (l : List Nat) (h8 : l.length = 8) (g i : Nat) (hi : i ≤ 8) (z : Int) (hz : z = (i : Int)) :
    ∃ A2, (∀ W, (Instr.sliceAt 32 (.pointer (some ⟨g, 0, none⟩)) (some (.int .i64 z)) none none).run Tryd.prog W = .ok (.slice A2 (8 - i) (8 - i)) W) ∧
      ∀ w', Sl w' (some ⟨g, 0, none⟩) 8 (hwV l) → Sl w' A2 (8 - i) (hwV (l.drop i)) := by
  have hal : Tryd.prog.arrayLen 32 = 8 := by kernel_rfl
  have e : hwV (l.drop i) = (hwV l).drop i := by unfold hwV; rw [List.map_drop]
  have hzn : z.toNat = i := by omega
  by_cases h : i = 8
  · refine ⟨some ⟨g, 0, none⟩, fun W => ?_, fun w' hs => ?_⟩
    · rw [run_sliceAt_array_l W 32 ⟨g, 0, none⟩ (by kernel_rfl) .i64 z (by omega) (by rw [hal]; omega), hal, hzn, h]
      rfl
    · rw [e, List.drop_of_length_le (by rw [length_hwV]; omega)]
      exact ⟨.inl rfl, Nat.zero_le _, fun h => by cases h⟩
  · refine ⟨some ⟨g, i, none⟩, fun W => ?_, fun w' hs => ?_⟩
    · rw [run_sliceAt_array_l W 32 ⟨g, 0, none⟩ (by kernel_rfl) .i64 z (by omega) (by rw [hal]; omega), hal, hzn]
      go_simp
      intro h'
      omega
    · have h := hs.cut (k := i) (by rw [length_hwV]; omega)
      rw [Nat.zero_add] at h
      rw [e]
      exact h
set_option maxHeartbeats 2000000 in
theorem asixtext_any (l : List Nat) (h8 : l.length = 8) (hm : ∀ n ∈ l, n < 65536) (w : World) (hE : Env w) :
    Calls Tryd.prog 17 #[.agg (hwV l).toArray] w fun e w' => e = .returned (.string (bstr (textN l))) ∧ Below w.heap.size w w' := by
  have hsl := Lib.hid (show (Tryd.prog.info? 32).map (·.size) = some (hwV l).toArray.size by rw [show (Tryd.prog.info? 32).map (·.size) = some 8 by kernel_rfl, List.size_toArray, length_hwV, h8])
  have hno := Lib.hid (fun w' => anoughts_any l h8 w')
  have hle := best_le l h8
  have HT := Lib.hid (show textN l = if zerosL (l.drop (bestL l)) < 2 then joinN l else joinN (l.take (bestL l)) ++ 58 :: 58 :: joinN (l.drop (bestL l + zerosL (l.drop (bestL l)))) from rfl)
  obtain ⟨w1, hw1⟩ : ∃ w1, w1 = w.alloc (.cells (hwV l).toArray 32) := ⟨_, rfl⟩
  have hr : Row w1 w.heap.size 32 (hwV l) := by rw [hw1]; exact Row.new w _ _
  have hR := Lib.hid (show w1.heap[w.heap.size]? = some (.cells (hwV l).toArray 32 (0, 0)) from hr)
  have hb : Below w.heap.size w w1 := by rw [hw1]; exact (Below.refl _ w).alloc (Nat.le_refl _) _
  have hE1 := hE.next hb
  have hlt := hr.lt
  have hs1 := sl_of_own (own_of_row hr (Nat.le_refl _) (by rw [length_hwV, h8]; unfold maxLen; omega))
  rw [length_hwV, h8] at hs1
  generalize hbest : bestL l = p at *
  generalize hmany : zerosL (l.drop p) = m at *
  obtain ⟨L, hL⟩ : ∃ L, L = hwV l := ⟨_, rfl⟩
  rw [← hL] at hsl hw1 hR hno ⊢
  have HL := Lib.hid hL
  clear hL
  by_cases h2 : m < 2
  · have h2' : (m : Int) < 2 := by omega
    have hj := Lib.hid (fun w' (hE : Env w') (hs : Sl w' (some ⟨w.heap.size, 0, none⟩) 8 (hwV l)) => ajoined16 l (by omega) hm 58 _ 8 8 (by omega) w' hE hs)
    have HG := Lib.hid (show textN l = glueL 58 (l.map (numL 16)) by rw [HT.out, if_pos h2, joinN_glue])
    generalize glueL 58 (l.map (numL 16)) = G at *
    go_enter Tryd.func17, Tryd.ntmps17
    subst hw1
    go_wp2_with (first
      | (with_reducible refine wpList_load_row rfl 32 (.tmp 1) rfl w.heap.size rfl 32 L.toArray (0, 0) _ hR.out Tryd.underlying32 rfl hsl.out ?_)
      | (go_at_call 28; refine (hno.out _).mono ?_; rintro e w2 ⟨rfl, hb2⟩; have hE2 := hE1.next hb2; have hs2 := hs1.later (Nat.le_refl _) hb2; have hb3 := hb.trans (hb2.mono hb.size))
      | (go_at_call 19; refine (hj.out _ hE2 hs2).mono ?_; rintro e w3 ⟨rfl, hb4⟩))
    go_ret
    exact ⟨by rw [HG.out]; rfl, hb3.trans (hb4.mono hb3.size)⟩
  · have h2' : (2 : Int) ≤ (m : Int) := by omega
    have hj1 := Lib.hid (fun w' (hE : Env w') (hs : Sl w' (some ⟨w.heap.size, 0, none⟩) 8 (hwV l)) => ajoined16 (l.take p) (by rw [List.length_take]; omega) (fun n hn => hm n (List.mem_of_mem_take hn)) 58 (some ⟨w.heap.size, 0, none⟩) p 8 (by rw [List.length_take]; omega) w' hE (by
      have e : hwV l = hwV (l.take p) ++ hwV (l.drop p) := by unfold hwV; rw [← List.map_append, List.take_append_drop]
      rw [e] at hs
      exact hs.pre))
    obtain ⟨A2, hcut, hsA⟩ := cut_hw8 l h8 w.heap.size (p + m) hle ((p : Int) + (m : Int)) (by omega)
    have hj2 := Lib.hid (fun w' (hE : Env w') (hs : Sl w' (some ⟨w.heap.size, 0, none⟩) 8 (hwV l)) => ajoined16 (l.drop (p + m)) (by rw [List.length_drop]; omega) (fun n hn => hm n (List.mem_of_mem_drop hn)) 58 A2 (8 - (p + m)) (8 - (p + m)) (by rw [List.length_drop]; omega) w' hE (hsA w' hs))
    clear hsA
    have HG := Lib.hid (show textN l = glueL 58 ((l.take p).map (numL 16)) ++ [58, 58] ++ glueL 58 ((l.drop (p + m)).map (numL 16)) by rw [HT.out, if_neg h2, joinN_glue, joinN_glue, List.append_assoc]; rfl)
    have hl1 : (glueL 58 ((l.take p).map (numL 16))).length ≤ 17 * 8 := by
      have h1 := glue_len 58 ((l.take p).map (numL 16))
      have h2 := sumS_num 16 (by omega) (l.take p) (fun n hn => Nat.lt_of_lt_of_le (hm n (List.mem_of_mem_take hn)) (by decide))
      rw [List.length_take] at h2
      omega
    have hl2 : (glueL 58 ((l.drop (p + m)).map (numL 16))).length ≤ 17 * 8 := by
      have h1 := glue_len 58 ((l.drop (p + m)).map (numL 16))
      have h2 := sumS_num 16 (by omega) (l.drop (p + m)) (fun n hn => Nat.lt_of_lt_of_le (hm n (List.mem_of_mem_drop hn)) (by decide))
      rw [List.length_drop] at h2
      omega
    generalize glueL 58 ((l.take p).map (numL 16)) = X1 at *
    generalize glueL 58 ((l.drop (p + m)).map (numL 16)) = X2 at *
    have hz1 : (bstr X1).size = X1.length := size_bstr _
    have hz2 : (bstr X2).size = X2.length := size_bstr _
    have hp0 : (0 : Int) ≤ (p : Int) := by omega
    have hp1 : (p : Int) ≤ 8 := by omega
    have hq0 : (0 : Int) ≤ (p : Int) + (m : Int) := by omega
    have hq1 : (p : Int) + (m : Int) ≤ 8 := by omega
    have hqw : IntKind.i64.wrap ((p : Int) + (m : Int)) = (p : Int) + (m : Int) := by rw [IntKind.wrap_i64]; omega
    go_enter Tryd.func17, Tryd.ntmps17
    subst hw1
    go_wp2_with (first
      | (with_reducible refine wpList_load_row rfl 32 (.tmp 1) rfl w.heap.size rfl 32 L.toArray (0, 0) _ hR.out Tryd.underlying32 rfl hsl.out ?_)
      | (go_at_call 28; refine (hno.out _).mono ?_; rintro e w2 ⟨rfl, hb2⟩; have hE2 := hE1.next hb2; have hs2 := hs1.later (Nat.le_refl _) hb2; have hb3 := hb.trans (hb2.mono hb.size)))
    have hj1 := Lib.hid (fun w' (hq : Below w2.heap.size w2 w') => hj1.out w' (hE2.next hq) (hs2.later (Nat.le_refl _) hq))
    have hj2 := Lib.hid (fun w' (hq : Below w2.heap.size w2 w') => hj2.out w' (hE2.next hq) (hs2.later (Nat.le_refl _) hq))
    clear hno HL hr hR hsl
    refine wp_region_noPanic ?_
    refine wp_region_held_drew (S := fun w' => Below w2.heap.size w2 w') (by kernel_rfl) ((Below.refl _ _).drew) (fun hHeld => ?_)
    have hB := hHeld
    refine rtake 0 _ (some 14) _ rfl rfl (by kernel_rfl) (by kernel_rfl) (by kernel_rfl) (fun _ _ _ h => h) (by rfl) hHeld (by intro w hS; go_simp; try with_reducible rfl) ?_
    try (first | (rw [put_some]; dsimp only [List.set]) | rw [put_none])
    refine rtake 1 _ (some 15) _ rfl rfl (by kernel_rfl) (by kernel_rfl) (by kernel_rfl) (fun _ _ _ h => h) (by rfl) hHeld (by intro w hS; go_simp; try with_reducible rfl) ?_
    try (first | (rw [put_some]; dsimp only [List.set]) | rw [put_none])
    refine rtake 4 _ (some 18) _ rfl rfl (by kernel_rfl) (by kernel_rfl) (by kernel_rfl) (fun _ _ _ h => h) (by rfl) hHeld (by intro w hS; go_simp; try with_reducible rfl) ?_
    try (first | (rw [put_some]; dsimp only [List.set]) | rw [put_none])
    refine rtake 5 _ (some 19) _ rfl rfl (by kernel_rfl) (by kernel_rfl) (by kernel_rfl) (fun _ _ _ h => h) (by rfl) hHeld (by intro w hS; go_simp; try with_reducible rfl) ?_
    try (first | (rw [put_some]; dsimp only [List.set]) | rw [put_none])
    refine rtake 6 _ (some 20) _ rfl rfl (by kernel_rfl) (by kernel_rfl) (by kernel_rfl) (fun _ _ _ h => h) (by rfl) hHeld (by intro w hS; go_simp; try with_reducible rfl) ?_
    try (first | (rw [put_some]; dsimp only [List.set]) | rw [put_none])
    refine rtake 7 _ (some 21) _ rfl rfl (by kernel_rfl) (by kernel_rfl) (by kernel_rfl) (fun _ _ _ h => h) (by rfl) hHeld (by intro w hS; go_simp; try with_reducible rfl) ?_
    try (first | (rw [put_some]; dsimp only [List.set]) | rw [put_none])
    refine wpAnyH_ready (rs := [2]) (by kernel_rfl) (by simp) (AllReadyH.cons (o := _) rfl (fun K hK => ?_) AllReadyH.nil)
    go_simp
    refine (hj1.out _ hB).mono ?_; rintro e ww22 ⟨rfl, hqw22⟩
    try go_wp2_with fail
    refine hK.out _ _ (hHeld.trans (hqw22.mono hHeld.size)) (fun hHeld' => ?_)
    clear hK K
    try (first | (rw [put_some]; dsimp only [List.set]) | rw [put_none])
    have hB := below_step hB hqw22
    have hB2 : Below ww22.heap.size ww22 ww22 := Below.refl _ _
    refine wpAnyH_narrow (S' := fun w' => Below ww22.heap.size ww22 w') (fun _ h => (hHeld.trans (hqw22.mono hHeld.size)).trans (h.mono (hHeld.trans (hqw22.mono hHeld.size)).size)) _ _ _ _ ?_
    clear hHeld
    have hHeld : Below ww22.heap.size ww22 ww22 := Below.refl _ _
    refine rtake 3 _ (some 17) _ rfl rfl (by kernel_rfl) (by kernel_rfl) (by kernel_rfl) (fun _ _ _ h => h) (by rfl) hHeld (by intro w hS; go_simp; rw [if_neg (by (try simp only [ByteArray.size_append, hz1, hz2]); (try simp only [show ByteArray.size { data := #[58, 58] } = 2 from rfl]); omega)]) ?_
    try (first | (rw [put_some]; dsimp only [List.set]) | rw [put_none])
    refine wpAnyH_ready (rs := [8]) (by kernel_rfl) (by simp) (AllReadyH.cons (o := _) rfl (fun K hK => ?_) AllReadyH.nil)
    go_simp
    refine (hj2.out _ hB).mono ?_; rintro e ww28 ⟨rfl, hqw28⟩
    try go_wp2_with fail
    refine hK.out _ _ (hHeld.trans (hqw28.mono hHeld.size)) (fun hHeld' => ?_)
    clear hK K
    try (first | (rw [put_some]; dsimp only [List.set]) | rw [put_none])
    have hB := below_step hB hqw28
    have hB2 := below_step hB2 hqw28
    have hB8 : Below ww28.heap.size ww28 ww28 := Below.refl _ _
    refine wpAnyH_narrow (S' := fun w' => Below ww28.heap.size ww28 w') (fun _ h => (hHeld.trans (hqw28.mono hHeld.size)).trans (h.mono (hHeld.trans (hqw28.mono hHeld.size)).size)) _ _ _ _ ?_
    clear hHeld
    have hHeld : Below ww28.heap.size ww28 ww28 := Below.refl _ _
    refine rtake 9 _ (some 23) _ rfl rfl (by kernel_rfl) (by kernel_rfl) (by kernel_rfl) (fun _ _ _ h => h) (by rfl) hHeld (by intro w hS; go_simp; rw [if_neg (by (try simp only [ByteArray.size_append, hz1, hz2]); (try simp only [show ByteArray.size { data := #[58, 58] } = 2 from rfl]); omega)]) ?_
    try (first | (rw [put_some]; dsimp only [List.set]) | rw [put_none])
    refine rtake 10 _ (some 2) _ rfl rfl (by kernel_rfl) (by kernel_rfl) (by kernel_rfl) (fun _ _ _ h => h) (by rfl) hHeld (by intro w hS; go_simp; try with_reducible rfl) ?_
    try (first | (rw [put_some]; dsimp only [List.set]) | rw [put_none])
    refine wpAnyH_done (by kernel_rfl) ?_ _
    refine NoPanic.normal ?_
    have hBe := hb3.trans (hB.mono hb3.size)
    clear hHeld
    go_wp2
    go_ret
    exact ⟨by rw [HG.out, ← bstr_cat12, ← bstr_cat12]; rfl, hBe⟩
end Go.Proofs.YtpmibdgghojgaaaDoor
