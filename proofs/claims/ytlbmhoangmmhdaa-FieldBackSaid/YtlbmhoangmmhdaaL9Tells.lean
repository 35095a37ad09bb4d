/- LAYER 9, FieldTells: the walk of the law. -/
import Derived.Test.YtlbmhoangmmhdaaHs9
namespace Go.Proofs.Ytlbmhoangmmhdaa
open Go Go.RowKit

set_option maxRecDepth 100000 in
set_option maxHeartbeats 4000000 in
theorem ftells_walk (A : Option Addr) (n c : Nat) (l : List UInt8) (B : Option Addr) (m d : Nat) (fs : List Fd) (w : World) (hs : Sl w A c (byts l)) (hn : n = l.length) (hlm : l.length ≤ 9223372036854775807)
    (hp : Sl w B (d * 2) (fs.flatMap fdV)) (hm : m = fs.length) (hfl : fs.length ≤ 9223372036854775807) (hfe : ∀ f ∈ fs, f.2.length ≤ 140737488351232) :
    Calls Try.prog 3 #[.slice A n c, .slice B m d] w fun e w' => e = .returned (.bool true) ∧ Below w.heap.size w w' := by
  subst hn hm
  by_cases h1000 : 1000 < l.length
  · have h1 : (1000 : Int) < (l.length : Int) := by omega
    generalize l.length = n at *
    go_enter Try.func3, Try.ntmps3
    go_wp2_with (go_at_call 5; refine (falive_any _).mono ?_; rintro e w1 ⟨rfl, hb1⟩)
    go_ret
    exact ⟨rfl, hb1⟩
  have hle : l.length ≤ 1000 := by omega
  have hg := Lib.hid (show ∀ w1, Sl w1 B (d * 2) (fs.flatMap fdV) → Calls Try.prog 6 #[.slice B fs.length d] w1 fun e w' => e = .returned (.bool (decide (1000 < sumF fs))) ∧ Below w1.heap.size w1 w' from fun w1 h => fgreat_any B fs.length d fs w1 h rfl hfl (fun f hf => Nat.le_trans (hfe f hf) (by decide)))
  have hl1 : (l.length : Int) ≤ 1000 := by omega
  clear hfl hfe h1000
  by_cases hgr : 1000 < sumF fs
  · have hd : decide (1000 < sumF fs) = true := decide_eq_true hgr
    rw [hd] at hg
    clear hd hgr
    go_enter Try.func3, Try.ntmps3
    go_wp2_with (first
      | (go_at_call 5; refine (falive_any _).mono ?_; rintro e w1 ⟨rfl, hb1⟩; have hp1 := hp.later (Nat.le_refl _) hb1)
      | (go_at_call 6; refine (hg.out _ hp1).mono ?_; rintro e w2 ⟨rfl, hb2⟩))
    go_ret
    exact ⟨rfl, hb1.trans (hb2.mono hb1.size)⟩
  have hd : decide (1000 < sumF fs) = false := decide_eq_false hgr
  rw [hd] at hg
  have hsum : sumF fs ≤ 1000 := by omega
  have hF1 := Lib.hid (show fs.length ≤ 1000000 by have := sumF_len fs; omega)
  have hF2 := Lib.hid (show (joinL fs).length ≤ 1000000 by have := length_joinL fs; omega)
  obtain ⟨D, hD⟩ : ∃ D, D = allD l := ⟨_, rfl⟩
  have hD1 := Lib.hid (show D.length ≤ 1000000 by
    rw [hD]
    unfold allD
    cases hq : allF l with
    | none => simp
    | some gs =>
      have h := allF_back l gs hq
      have h2 := joinL_len gs
      rw [h.1] at h2
      show gs.length ≤ _
      omega)
  have hDD := Lib.hid (show ∀ w1 A1 c1 A2 c2, Sl w1 A1 (c1 * 2) (D.flatMap fdV) → Sl w1 A2 (c2 * 2) (D.flatMap fdV) → Calls Try.prog 11 #[.slice A1 D.length c1, .slice A2 D.length c2] w1 fun e w' => e = .returned (.bool true) ∧ Below w1.heap.size w1 w' from fun w1 A1 c1 A2 c2 h1 h2 => (fsame_any A1 D.length c1 D A2 D.length c2 D w1 h1 rfl h2 rfl hD1.out).mono fun e w' h => ⟨h.1.trans (by rw [decide_eq_true rfl]), h.2⟩)
  obtain ⟨G, hG⟩ : ∃ G, G = getF l := ⟨_, rfl⟩
  obtain ⟨f, mm⟩ := G
  obtain ⟨V, hV⟩ : ∃ V, V = fdV f := ⟨_, rfl⟩
  obtain ⟨Q, hQ⟩ : ∃ Q, Q = decide (0 < mm) := ⟨_, rfl⟩
  have hQ1 : decide ((0 : Int) < (mm : Int)) = Q := by rw [hQ]; congr 1; exact propext ⟨fun h => by omega, fun h => by omega⟩
  have hQ2 : decide (0 < mm) = Q := hQ.symm
  obtain ⟨Z, hZ⟩ : ∃ Z, Z = (allF l).isSome := ⟨_, rfl⟩
  have hget := Lib.hid (show ∀ w1, Sl w1 A c (byts l) → Calls Try.prog 7 #[.slice A l.length c] w1 fun e w' => e = .returned (.tuple #[.agg V.toArray, .int .i64 mm, .bool Q]) ∧ Below w1.heap.size w1 w' by
    intro w1 h
    have h := fget_any A l.length c l w1 h rfl (by omega)
    rw [← hG] at h
    rw [hV, hQ]
    exact h)
  have hrget := Lib.hid (show ∀ w1, Sl w1 A c (byts l) → Calls Try.prog 8 #[.slice A l.length c] w1 fun e w' => e = .returned (.tuple #[.agg V.toArray, .int .i64 mm]) ∧ Below w1.heap.size w1 w' by
    intro w1 h
    have h := rgetf_any A l.length c l w1 h rfl (by omega)
    rw [← hG] at h
    rw [hV]
    exact h)
  have hall := Lib.hid (show ∀ w1, Sl w1 A c (byts l) → Calls Try.prog 9 #[.slice A l.length c] w1 fun e w' => ∃ A' c', e = .returned (.tuple #[.slice A' D.length c', .bool Z]) ∧ Sl w' A' (c' * 2) (D.flatMap fdV) ∧ Below w1.heap.size w1 w' by
    rw [hD, hZ]; exact fun w1 h => fall_any A l.length c l w1 h rfl (by omega))
  have hrall := Lib.hid (show ∀ w1, Sl w1 A c (byts l) → Calls Try.prog 10 #[.slice A l.length c] w1 fun e w' => ∃ A' c', e = .returned (.tuple #[.slice A' D.length c', .bool Z]) ∧ Sl w' A' (c' * 2) (D.flatMap fdV) ∧ Below w1.heap.size w1 w' by
    rw [hD, hZ]; exact fun w1 h => rallf_any A l.length c l w1 h rfl (by omega))
  have hE : ∀ w, (Op.equalIn 10000 27 (.agg V.toArray) (.agg V.toArray)).run Try.prog w = .ok true w := by
    intro w; rw [hV, run_eq_fd f f w]; simp
  have hzF := Lib.hid (show (Try.prog.info? 30).map (·.size) = some V.length by rw [hV]; exact size_fd)
  have hzG := Lib.hid (show (Try.prog.info? 27).map (·.size) = some V.length by rw [hV]; exact size_ff)
  have hzF2 := Lib.hid (show (Try.prog.info? 30).map (·.size) = some V.toArray.size by rw [hV]; exact size_fd)
  have hzG2 := Lib.hid (show (Try.prog.info? 27).map (·.size) = some V.toArray.size by rw [hV]; exact size_ff)
  have hV2 := Lib.hid (show (2 : Nat) = V.toArray.size by rw [hV]; rfl)
  have hof := Lib.hid (show V.toArray.all (·.oneCell') = true by rw [hV]; exact all_one (fun v hv => fdV_one [f] v (by simpa using hv)))
  clear hd hgr hsum hD hG hV hQ hZ hlm
  go_enter Try.func3, Try.ntmps3
  go_wp2_with (first
    | (go_at_call 5; refine (falive_any _).mono ?_; rintro e w3 ⟨rfl, hb3⟩; have hp3 := hp.later (Nat.le_refl _) hb3)
    | (go_at_call 6; refine (hg.out _ hp3).mono ?_; rintro e w4 ⟨rfl, hb4⟩; have hbw4 := hb3.trans (hb4.mono hb3.size); have hs4 := hs.later (Nat.le_refl _) hbw4; clear hb4 hp3)
    | (go_at_call 7; refine (hget.out _ hs4).mono ?_; rintro e w5 ⟨rfl, hb5⟩; have hbw5 := hbw4.trans (hb5.mono hbw4.size); clear hb5 hs4)
    | (with_reducible refine wpList_store_row rfl 27 (.tmp 5) (.tmp 26) rfl w5.heap.size V.toArray rfl rfl 27 _ (heap_alloc_new w5 _) hzG2.out (Eq.trans (by kernel_rfl) hV2.out) hof.out ?_; refine Hid.out ?_))
  refine Lib.hid ?_
  generalize hw6 : World.setRow _ _ _ = w6
  obtain ⟨r6, hb6⟩ := row_new_set (xs := V) hw6
  have hbw6 := hbw5.trans (hb6.mono hbw5.size)
  have hs6 := hs.later (Nat.le_refl _) hbw6
  clear hw6 hb6
  go_wp2_with (first
    | (go_at_call 8; refine (hrget.out _ hs6).mono ?_; rintro e w7 ⟨rfl, hb7⟩; have hbw7 := hbw6.trans (hb7.mono hbw6.size); have r6 := r6.later hb7 r6.lt; clear hb7 hs6)
    | (with_reducible refine wpList_store_row rfl 30 (.tmp 8) (.tmp 32) rfl w7.heap.size V.toArray rfl rfl 30 _ (heap_alloc_new w7 _) hzF2.out (Eq.trans (by kernel_rfl) hV2.out) hof.out ?_; refine Hid.out ?_))
  refine Lib.hid ?_
  generalize hw8 : World.setRow _ _ _ = w8
  obtain ⟨r8, hb8⟩ := row_new_set (xs := V) hw8
  have hbw8 := hbw7.trans (hb8.mono hbw7.size)
  have r6 := r6.later hb8 r6.lt
  have hs8 := hs.later (Nat.le_refl _) hbw8
  clear hw8 hb8
  go_wp2_with (first
    | (go_at_call 9; refine (hall.out _ hs8).mono ?_; rintro e w9 ⟨A9, c9, rfl, hsl9, hb9⟩; have hbw9 := hbw8.trans (hb9.mono hbw8.size); have r6 := r6.later hb9 r6.lt; have r8 := r8.later hb9 r8.lt; have hs9 := hs8.later (Nat.le_refl _) hb9; clear hb9 hs8)
    | (go_at_call 10; refine (hrall.out _ hs9).mono ?_; rintro e w10 ⟨A10, c10, rfl, hsl10, hb10⟩; have hbw10 := hbw9.trans (hb10.mono hbw9.size); have r6 := r6.later hb10 r6.lt; have r8 := r8.later hb10 r8.lt; have hsl9 := hsl9.later (Nat.le_refl _) hb10; have hp10 := hp.later (Nat.le_refl _) hbw10; clear hb10 hs9))
  refine wp_region_noPanic ?_
  refine wp_region_held_drew (S := fun w' => Below w10.heap.size w10 w') (by kernel_rfl) ((Below.refl _ _).drew) (fun hHeld => ?_)
  have hB := hHeld
  refine rtake 0 _ (some 44) _ rfl rfl (by kernel_rfl) (by kernel_rfl) (by kernel_rfl) (fun _ _ _ h => h) (by rfl) hHeld (by intro w hS; exact run_load_op 27 (.tmp 5) rfl _ 0 rfl V _ (row_range (r6.later hS r6.lt)) Try.underlying27 rfl hzG.out) ?_
  try (first | (rw [put_some]; dsimp only [List.set]) | rw [put_none])
  refine rtake 1 _ (some 45) _ rfl rfl (by kernel_rfl) (by kernel_rfl) (by kernel_rfl) (fun _ _ _ h => h) (by rfl) hHeld (by intro w hS; exact run_load_op 30 (.tmp 8) rfl _ 0 rfl V _ (row_range (r8.later hS r8.lt)) Try.underlying30 rfl hzF.out) ?_
  try (first | (rw [put_some]; dsimp only [List.set]) | rw [put_none])
  refine rtake 2 _ (some 46) _ rfl rfl (by kernel_rfl) (by kernel_rfl) (by kernel_rfl) (fun _ _ _ h => h) (by rfl) hHeld (by intro w hS; go_simp; try with_reducible rfl) ?_
  try (first | (rw [put_some]; dsimp only [List.set]) | rw [put_none])
  refine rtake 3 _ (some 47) _ rfl rfl (by kernel_rfl) (by kernel_rfl) (by kernel_rfl) (fun _ _ _ h => h) (by rfl) hHeld (by intro w hS; go_simp; try with_reducible rfl) ?_
  try (first | (rw [put_some]; dsimp only [List.set]) | rw [put_none])
  refine rtake 4 _ (some 48) _ rfl rfl (by kernel_rfl) (by kernel_rfl) (by kernel_rfl) (fun _ _ _ h => h) (by rfl) hHeld (by intro w hS; go_simp; try with_reducible rfl) ?_
  try (first | (rw [put_some]; dsimp only [List.set]) | rw [put_none])
  refine rtake 5 _ (some 49) _ rfl rfl (by kernel_rfl) (by kernel_rfl) (by kernel_rfl) (fun _ _ _ h => h) (by rfl) hHeld (by intro w hS; go_simp; try with_reducible rfl) ?_
  try (first | (rw [put_some]; dsimp only [List.set]) | rw [put_none])
  refine rtake 6 _ (some 50) _ rfl rfl (by kernel_rfl) (by kernel_rfl) (by kernel_rfl) (fun _ _ _ h => h) (by rfl) hHeld (by intro w hS; go_simp; try with_reducible rfl) ?_
  try (first | (rw [put_some]; dsimp only [List.set]) | rw [put_none])
  refine rtake 7 _ (some 51) _ rfl rfl (by kernel_rfl) (by kernel_rfl) (by kernel_rfl) (fun _ _ _ h => h) (by rfl) hHeld (by intro w hS; go_simp; try with_reducible rfl) ?_
  try (first | (rw [put_some]; dsimp only [List.set]) | rw [put_none])
  refine rtake 8 _ (some 52) _ rfl rfl (by kernel_rfl) (by kernel_rfl) (by kernel_rfl) (fun _ _ _ h => h) (by rfl) hHeld (by intro w hS; go_simp; try with_reducible rfl) ?_
  try (first | (rw [put_some]; dsimp only [List.set]) | rw [put_none])
  refine rtake 9 _ (some 53) _ rfl rfl (by kernel_rfl) (by kernel_rfl) (by kernel_rfl) (fun _ _ _ h => h) (by rfl) hHeld (by intro w hS; go_simp; try with_reducible rfl) ?_
  try (first | (rw [put_some]; dsimp only [List.set]) | rw [put_none])
  refine rtake 10 _ (some 54) _ rfl rfl (by kernel_rfl) (by kernel_rfl) (by kernel_rfl) (fun _ _ _ h => h) (by rfl) hHeld (by intro w hS; go_simp; try with_reducible rfl) ?_
  try (first | (rw [put_some]; dsimp only [List.set]) | rw [put_none])
  refine rtake 11 _ (some 55) _ rfl rfl (by kernel_rfl) (by kernel_rfl) (by kernel_rfl) (fun _ _ _ h => h) (by rfl) hHeld (by intro w hS; go_simp; try with_reducible rfl) ?_
  try (first | (rw [put_some]; dsimp only [List.set]) | rw [put_none])
  refine rtake 12 _ (some 56) _ rfl rfl (by kernel_rfl) (by kernel_rfl) (by kernel_rfl) (fun _ _ _ h => h) (by rfl) hHeld (by intro w hS; go_simp; try with_reducible rfl) ?_
  try (first | (rw [put_some]; dsimp only [List.set]) | rw [put_none])
  refine rtake 13 _ (some 57) _ rfl rfl (by kernel_rfl) (by kernel_rfl) (by kernel_rfl) (fun _ _ _ h => h) (by rfl) hHeld (by intro w hS; go_simp; try with_reducible rfl) ?_
  try (first | (rw [put_some]; dsimp only [List.set]) | rw [put_none])
  refine rtake 14 _ (some 58) _ rfl rfl (by kernel_rfl) (by kernel_rfl) (by kernel_rfl) (fun _ _ _ h => h) (by rfl) hHeld (by intro w hS; go_simp; try with_reducible rfl) ?_
  try (first | (rw [put_some]; dsimp only [List.set]) | rw [put_none])
  refine rtake 15 _ (some 59) _ rfl rfl (by kernel_rfl) (by kernel_rfl) (by kernel_rfl) (fun _ _ _ h => h) (by rfl) hHeld (by intro w hS; go_simp; try with_reducible rfl) ?_
  try (first | (rw [put_some]; dsimp only [List.set]) | rw [put_none])
  refine rtake 16 _ (some 60) _ rfl rfl (by kernel_rfl) (by kernel_rfl) (by kernel_rfl) (fun _ _ _ h => h) (by rfl) hHeld (by intro w hS; go_simp; try with_reducible rfl) ?_
  try (first | (rw [put_some]; dsimp only [List.set]) | rw [put_none])
  refine wpAnyH_ready (rs := [17]) (by kernel_rfl) (by simp) (AllReadyH.cons (o := _) rfl (fun K hK => ?_) AllReadyH.nil)
  go_simp
  refine (hDD.out _ _ _ _ _ (hsl9.later (Nat.le_refl _) hB) (hsl10.later (Nat.le_refl _) hB)).mono ?_; rintro e ww1017 ⟨rfl, hqw1017⟩
  try go_wp2_with fail
  refine hK.out _ _ (hHeld.trans (hqw1017.mono hHeld.size)) (fun hHeld' => ?_)
  clear hK K
  try (first | (rw [put_some]; dsimp only [List.set]) | rw [put_none])
  have hB := below_step hB hqw1017
  have hB17 : Below ww1017.heap.size ww1017 ww1017 := Below.refl _ _
  refine wpAnyH_narrow (S' := fun w' => Below ww1017.heap.size ww1017 w') (fun _ h => (hHeld.trans (hqw1017.mono hHeld.size)).trans (h.mono (hHeld.trans (hqw1017.mono hHeld.size)).size)) _ _ _ _ ?_
  clear hHeld
  have hHeld : Below ww1017.heap.size ww1017 ww1017 := Below.refl _ _
  refine rtake 18 _ (some 62) _ rfl rfl (by kernel_rfl) (by kernel_rfl) (by kernel_rfl) (fun _ _ _ h => h) (by rfl) hHeld (by intro w hS; go_simp; try with_reducible rfl) ?_
  try (first | (rw [put_some]; dsimp only [List.set]) | rw [put_none])
  refine rtake 19 _ (some 63) _ rfl rfl (by kernel_rfl) (by kernel_rfl) (by kernel_rfl) (fun _ _ _ h => h) (by rfl) hHeld (by intro w hS; go_simp; try with_reducible rfl) ?_
  try (first | (rw [put_some]; dsimp only [List.set]) | rw [put_none])
  refine rtake 20 _ (some 64) _ rfl rfl (by kernel_rfl) (by kernel_rfl) (by kernel_rfl) (fun _ _ _ h => h) (by rfl) hHeld (by intro w hS; go_simp; try with_reducible rfl) ?_
  try (first | (rw [put_some]; dsimp only [List.set]) | rw [put_none])
  refine rtake 21 _ (some 65) _ rfl rfl (by kernel_rfl) (by kernel_rfl) (by kernel_rfl) (fun _ _ _ h => h) (by rfl) hHeld (by intro w hS; go_simp; try with_reducible rfl) ?_
  try (first | (rw [put_some]; dsimp only [List.set]) | rw [put_none])
  refine rtake 22 _ (some 66) _ rfl rfl (by kernel_rfl) (by kernel_rfl) (by kernel_rfl) (fun _ _ _ h => h) (by rfl) hHeld (by intro w hS; go_simp; try with_reducible rfl) ?_
  try (first | (rw [put_some]; dsimp only [List.set]) | rw [put_none])
  refine rtake 23 _ (some 67) _ rfl rfl (by kernel_rfl) (by kernel_rfl) (by kernel_rfl) (fun _ _ _ h => h) (by rfl) hHeld (by intro w hS; go_simp; try with_reducible rfl) ?_
  try (first | (rw [put_some]; dsimp only [List.set]) | rw [put_none])
  refine rtake 24 _ (some 68) _ rfl rfl (by kernel_rfl) (by kernel_rfl) (by kernel_rfl) (fun _ _ _ h => h) (by rfl) hHeld (by intro w hS; go_simp; try with_reducible rfl) ?_
  try (first | (rw [put_some]; dsimp only [List.set]) | rw [put_none])
  refine rtake 25 _ (some 69) _ rfl rfl (by kernel_rfl) (by kernel_rfl) (by kernel_rfl) (fun _ _ _ h => h) (by rfl) hHeld (by intro w hS; go_simp; try with_reducible rfl) ?_
  try (first | (rw [put_some]; dsimp only [List.set]) | rw [put_none])
  refine rtake 29 _ (some 73) _ rfl rfl (by kernel_rfl) (by kernel_rfl) (by kernel_rfl) (fun _ _ _ h => h) (by rfl) hHeld (by intro w hS; go_simp; try with_reducible rfl) ?_
  try (first | (rw [put_some]; dsimp only [List.set]) | rw [put_none])
  refine wpAnyH_ready (rs := [26]) (by kernel_rfl) (by simp) (AllReadyH.cons (o := _) rfl (fun K hK => ?_) AllReadyH.nil)
  go_simp
  refine (ffields_any B fs.length d fs _ (hp10.later (Nat.le_refl _) hB) rfl hF1.out).mono ?_; rintro e ww1026 ⟨A26, c26, rfl, hsl26, hqw1026⟩
  try go_wp2_with fail
  refine hK.out _ _ (hHeld.trans (hqw1026.mono hHeld.size)) (fun hHeld' => ?_)
  clear hK K
  try (first | (rw [put_some]; dsimp only [List.set]) | rw [put_none])
  have hB := below_step hB hqw1026
  have hB17 := below_step hB17 hqw1026
  have hB26 : Below ww1026.heap.size ww1026 ww1026 := Below.refl _ _
  refine wpAnyH_narrow (S' := fun w' => Below ww1026.heap.size ww1026 w') (fun _ h => (hHeld.trans (hqw1026.mono hHeld.size)).trans (h.mono (hHeld.trans (hqw1026.mono hHeld.size)).size)) _ _ _ _ ?_
  clear hHeld
  have hHeld : Below ww1026.heap.size ww1026 ww1026 := Below.refl _ _
  refine wpAnyH_ready (rs := [27]) (by kernel_rfl) (by simp) (AllReadyH.cons (o := _) rfl (fun K hK => ?_) AllReadyH.nil)
  go_simp
  refine (fjoin_any A26 fs.length c26 fs _ hsl26 rfl hF2.out).mono ?_; rintro e ww1027 ⟨v27, rfl, hown27, hqw1027⟩; obtain ⟨A27, c27, rfl, _, hsl27⟩ := Sl.of_own hown27; clear hown27
  try go_wp2_with fail
  refine hK.out _ _ (hHeld.trans (hqw1027.mono hHeld.size)) (fun hHeld' => ?_)
  clear hK K
  try (first | (rw [put_some]; dsimp only [List.set]) | rw [put_none])
  have hB := below_step hB hqw1027
  have hB17 := below_step hB17 hqw1027
  have hB26 := below_step hB26 hqw1027
  have hB27 : Below ww1027.heap.size ww1027 ww1027 := Below.refl _ _
  refine wpAnyH_narrow (S' := fun w' => Below ww1027.heap.size ww1027 w') (fun _ h => (hHeld.trans (hqw1027.mono hHeld.size)).trans (h.mono (hHeld.trans (hqw1027.mono hHeld.size)).size)) _ _ _ _ ?_
  clear hHeld
  have hHeld : Below ww1027.heap.size ww1027 ww1027 := Below.refl _ _
  have hcv27 := conv_later hsl27 _ rfl
  refine rtake 28 _ (some 72) _ rfl rfl (by kernel_rfl) (by kernel_rfl) (by kernel_rfl) (fun _ _ _ h => h) (by rfl) hHeld (by intro w hS; go_simp; try with_reducible rfl) ?_
  try (first | (rw [put_some]; dsimp only [List.set]) | rw [put_none])
  refine wpAnyH_ready (rs := [30]) (by kernel_rfl) (by simp) (AllReadyH.cons (o := _) rfl (fun K hK => ?_) AllReadyH.nil)
  go_simp
  refine (rjoin_any B fs.length d fs _ (hp10.later (Nat.le_refl _) hB) rfl hF2.out).mono ?_; rintro e ww1030 ⟨v30, rfl, hown30, hqw1030⟩; obtain ⟨A30, c30, rfl, _, hsl30⟩ := Sl.of_own hown30; clear hown30
  try go_wp2_with fail
  refine hK.out _ _ (hHeld.trans (hqw1030.mono hHeld.size)) (fun hHeld' => ?_)
  clear hK K
  try (first | (rw [put_some]; dsimp only [List.set]) | rw [put_none])
  have hB := below_step hB hqw1030
  have hB17 := below_step hB17 hqw1030
  have hB26 := below_step hB26 hqw1030
  have hB27 := below_step hB27 hqw1030
  have hB30 : Below ww1030.heap.size ww1030 ww1030 := Below.refl _ _
  refine wpAnyH_narrow (S' := fun w' => Below ww1030.heap.size ww1030 w') (fun _ h => (hHeld.trans (hqw1030.mono hHeld.size)).trans (h.mono (hHeld.trans (hqw1030.mono hHeld.size)).size)) _ _ _ _ ?_
  clear hHeld
  have hHeld : Below ww1030.heap.size ww1030 ww1030 := Below.refl _ _
  have hcv30 := conv_later hsl30 _ rfl
  refine rtake 31 _ (some 75) _ rfl rfl (by kernel_rfl) (by kernel_rfl) (by kernel_rfl) (fun _ _ _ h => h) (by rfl) hHeld (by intro w hS; go_simp; try with_reducible rfl) ?_
  try (first | (rw [put_some]; dsimp only [List.set]) | rw [put_none])
  refine rtake 32 _ (some 76) _ rfl rfl (by kernel_rfl) (by kernel_rfl) (by kernel_rfl) (fun _ _ _ h => h) (by rfl) hHeld (by intro w hS; go_simp; try with_reducible rfl) ?_
  try (first | (rw [put_some]; dsimp only [List.set]) | rw [put_none])
  refine rtake 33 _ (some 77) _ rfl rfl (by kernel_rfl) (by kernel_rfl) (by kernel_rfl) (fun _ _ _ h => h) (by rfl) hHeld (by intro w hS; go_simp; try with_reducible rfl) ?_
  try (first | (rw [put_some]; dsimp only [List.set]) | rw [put_none])
  refine rtake 34 _ (some 4) _ rfl rfl (by kernel_rfl) (by kernel_rfl) (by kernel_rfl) (fun _ _ _ h => h) (by rfl) hHeld (by intro w hS; go_simp; try with_reducible rfl) ?_
  try (first | (rw [put_some]; dsimp only [List.set]) | rw [put_none])
  refine wpAnyH_done (by kernel_rfl) ?_ _
  refine NoPanic.normal ?_
  have hBe := hbw10.trans (hB.mono hbw10.size)
  clear hHeld hcv27 hcv30 hsl26 hsl27 hsl30
  go_wp2
  go_ret
  exact ⟨rfl, hBe⟩
end Go.Proofs.Ytlbmhoangmmhdaa
