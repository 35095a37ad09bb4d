/- LAYER 9: the document's bytes of a field. -/
import Derived.Test.YthiebbhooigogaaFl
import Derived.Test.YthiebbhooigogaaAf
import Derived.Test.YthiebbhooigogaaVr
import Derived.Test.YthiebbhooigogaaCv
namespace Go.Proofs.Ythiebbhooigogaa
open Go Go.RowKit

set_option maxRecDepth 20000 in
set_option maxHeartbeats 2000000 in
theorem rfield_any (x : UInt8) (s : List UInt8) (hs : s.length ≤ 1000000) (w : World) :
    Calls Try.prog 54 #[.agg (fdV (x, s)).toArray] w (GaveBytes (fieldL (x, s)) w) := by
  obtain ⟨i0, hi, hz0, hz1, hz2⟩ := info_parts infoByte
  have hlL := length_varL s.length
  obtain ⟨L, hL⟩ : ∃ L, L = varL s.length := ⟨_, rfl⟩
  rw [← hL] at hlL
  have hL0 : 0 < L.length := hlL.1
  have hz := size_bstr s
  have hwz : IntKind.u64.wrap (s.length : Int) = (s.length : Int) := by rw [IntKind.wrap_u64]; omega
  have hnum := Lib.hid (show ∀ w1, Calls Try.prog 57 #[.int .u64 s.length] w1 (GaveBytes L w1) by rw [hL]; exact fun w1 => rbytes8_any s.length (by omega) w1)
  have hF := Lib.hid (show fieldL (x, s) = [x] ++ L ++ s by rw [hL]; rfl)
  have n1 : 1 + L.length ≤ maxLen := by unfold maxLen; omega
  have n2 : (1 + L.length) * 1 ≤ 140737488355328 := by omega
  have m1 : 1 + L.length + s.length ≤ maxLen := by unfold maxLen; omega
  have m2 : (1 + L.length + s.length) * 1 ≤ 140737488355328 := by omega
  clear hL hlL
  go_enter Try.func54, Try.ntmps54
  go_wp2_with fail
  generalize hw3 : World.alloc w _ = w3
  have hr : Row w3 w.heap.size 65 (fdV (x, s)) := by rw [← hw3]; exact Row.new w _ (fdV (x, s))
  have hb3 : Below w.heap.size w w3 := by rw [← hw3]; exact (Below.refl _ w).alloc (Nat.le_refl _) _
  clear hw3
  have hcA : ∀ w', Below w3.heap.size w3 w' → w'.cell? ⟨w.heap.size, 0, none⟩ = some (.int .u8 (x.toNat : Int)) := fun w' h => by rw [(hr.later h hr.lt).cell]; rfl
  have hcB : ∀ w', Below w3.heap.size w3 w' → w'.cell? ⟨w.heap.size, 1, none⟩ = some (.string (bstr s)) := fun w' h => by rw [(hr.later h hr.lt).cell]; rfl
  refine wp_region_noPanic ?_
  refine wp_region_held_drew (S := fun w' => Below w3.heap.size w3 w') (by kernel_rfl) ((Below.refl _ _).drew) (fun hHeld => ?_)
  have hB := hHeld
  refine rtake 0 _ (some 3) _ rfl rfl (by kernel_rfl) (by kernel_rfl) (by kernel_rfl) (fun _ _ _ h => h) (by rfl) hHeld (by intro w hS; go_simp; try with_reducible rfl) ?_
  try (first | (rw [put_some]; dsimp only [List.set]) | rw [put_none])
  refine rtake 1 _ (some 4) _ rfl rfl (by kernel_rfl) (by kernel_rfl) (by kernel_rfl) (fun _ _ _ h => h) (by rfl) hHeld (by intro w hS; go_simp; try with_reducible rfl) ?_
  try (first | (rw [put_some]; dsimp only [List.set]) | rw [put_none])
  refine rtake 3 _ (some 6) _ rfl rfl (by kernel_rfl) (by kernel_rfl) (by kernel_rfl) (fun _ _ _ h => h) (by rfl) hHeld (by intro w hS; go_simp; try with_reducible rfl) ?_
  try (first | (rw [put_some]; dsimp only [List.set]) | rw [put_none])
  refine rtake 4 _ (some 7) _ rfl rfl (by kernel_rfl) (by kernel_rfl) (by kernel_rfl) (fun _ _ _ h => h) (by rfl) hHeld (by intro w hS; go_simp; try with_reducible rfl) ?_
  try (first | (rw [put_some]; dsimp only [List.set]) | rw [put_none])
  refine rtake 5 _ (some 8) _ rfl rfl (by kernel_rfl) (by kernel_rfl) (by kernel_rfl) (fun _ _ _ h => h) (by rfl) hHeld (by intro w hS; go_simp; try with_reducible rfl) ?_
  try (first | (rw [put_some]; dsimp only [List.set]) | rw [put_none])
  refine rtake 6 _ (some 9) _ rfl rfl (by kernel_rfl) (by kernel_rfl) (by kernel_rfl) (fun _ _ _ h => h) (by rfl) hHeld (by intro w hS; go_simp; try with_reducible rfl) ?_
  try (first | (rw [put_some]; dsimp only [List.set]) | rw [put_none])
  refine rtake 9 _ (some 12) _ rfl rfl (by kernel_rfl) (by kernel_rfl) (by kernel_rfl) (fun _ _ _ h => h) (by rfl) hHeld (by intro w hS; go_simp; try with_reducible rfl) ?_
  try (first | (rw [put_some]; dsimp only [List.set]) | rw [put_none])
  refine rtake 10 _ (some 13) _ rfl rfl (by kernel_rfl) (by kernel_rfl) (by kernel_rfl) (fun _ _ _ h => h) (by rfl) hHeld (by intro w hS; go_simp; try with_reducible rfl) ?_
  try (first | (rw [put_some]; dsimp only [List.set]) | rw [put_none])
  refine wpAnyH_ready (rs := [2, 7, 11]) (by kernel_rfl) (by simp) (AllReadyH.cons (o := _) rfl (fun K hK => ?_) (AllReadyH.cons (o := _) rfl (fun K hK => ?_) (AllReadyH.cons (o := _) rfl (fun K hK => ?_) AllReadyH.nil)))
  · refine step_alloc (some 5) rfl (by rfl) (.slice (some ⟨w3.heap.size, 0, none⟩) 1 1) (.cells (byts [x]).toArray 5) (by go_simp; try rfl) ?_; intro ww32 hw hqw32; have hsl2 : Sl ww32 (some ⟨w3.heap.size, 0, none⟩) (1 * 1) (byts [x]) := (by rw [hw]; exact ⟨Rd.row (ys := []) (by rw [List.append_nil]; exact Row.new w3.drew 5 (byts [x])), Nat.le_refl _, fun h => by cases h⟩); clear hw
    refine hK.out _ _ (hHeld.trans (hqw32.mono hHeld.size)) (fun hHeld' => ?_)
    clear hK K
    try (first | (rw [put_some]; dsimp only [List.set]) | rw [put_none])
    have hB := below_step hB hqw32
    have hB2 : Below ww32.heap.size ww32 ww32 := Below.refl _ _
    clear hHeld
    have hHeld := hHeld'
    refine wpAnyH_ready (rs := [7, 11]) (by kernel_rfl) (by simp) (AllReadyH.cons (o := _) rfl (fun K hK => ?_) (AllReadyH.cons (o := _) rfl (fun K hK => ?_) AllReadyH.nil))
    · go_simp
      refine (hnum.out _).mono ?_; rintro e ww37 ⟨v7, rfl, hown7, hqw37⟩; obtain ⟨A7, c7, rfl, _, hsl7⟩ := Sl.of_ownk hown7; clear hown7
      try go_wp2_with fail
      refine hK.out _ _ (hHeld.trans (hqw37.mono hHeld.size)) (fun hHeld' => ?_)
      clear hK K
      try (first | (rw [put_some]; dsimp only [List.set]) | rw [put_none])
      have hB := below_step hB hqw37
      have hB2 := below_step hB2 hqw37
      have hB7 : Below ww37.heap.size ww37 ww37 := Below.refl _ _
      clear hHeld
      have hHeld := hHeld'
      refine wpAnyH_ready (rs := [8, 11]) (by kernel_rfl) (by simp) (AllReadyH.cons (o := _) rfl (fun K hK => ?_) (AllReadyH.cons (o := _) rfl (fun K hK => ?_) AllReadyH.nil))
      · refine step_append_full (some 11) rfl (by rfl) (.tmp 5) (.tmp 10) 31 rfl 5 i0 _ 1 1 Try.underlying31 hi hz0 hz1 (by omega) hz2 rfl _ 0 1 (byts [x]) rfl rfl (hsl2.later (Nat.le_refl _) hB2) A7 L.length c7 (byts L) rfl (by rw [length_byts, Nat.mul_one]) hL0 (hsl7.later (Nat.le_refl _) hB7) n1 n2 ?_; intro v8 ww38 hown8 hqw38; rw [← byts_append] at hown8; have hq8 := Lib.hid (show w3.heap.size ≤ ww37.heap.size from hB.size)
        refine hK.out _ _ (hHeld.trans (hqw38.mono hHeld.size)) (fun hHeld' => ?_)
        clear hK K
        try (first | (rw [put_some]; dsimp only [List.set]) | rw [put_none])
        have hB := below_step hB hqw38
        have hB2 := below_step hB2 hqw38
        have hB7 := below_step hB7 hqw38
        have hB8 : Below ww38.heap.size ww38 ww38 := Below.refl _ _
        clear hHeld
        have hHeld := hHeld'
        refine wpAnyH_ready (rs := [11]) (by kernel_rfl) (by simp) (AllReadyH.cons (o := _) rfl (fun K hK => ?_) AllReadyH.nil)
        refine step_conv_string (some 14) rfl (by rfl) (.tmp 13) rfl s rfl ?_; intro A11 c11 ww311 hsl11 hqw311
        refine hK.out _ _ (hHeld.trans (hqw311.mono hHeld.size)) (fun hHeld' => ?_)
        clear hK K
        try (first | (rw [put_some]; dsimp only [List.set]) | rw [put_none])
        have hB := below_step hB hqw311
        have hB2 := below_step hB2 hqw311
        have hB7 := below_step hB7 hqw311
        have hB8 := below_step hB8 hqw311
        have hB11 : Below ww311.heap.size ww311 ww311 := Below.refl _ _
        clear hHeld
        have hHeld := hHeld'
        refine wpAnyH_ready (rs := [12]) (by kernel_rfl) (by simp) (AllReadyH.cons (o := _) rfl (fun K hK => ?_) AllReadyH.nil)
        refine step_append_at (some 15) rfl (by rfl) (.tmp 11) (.tmp 14) 31 rfl w3.heap.size 5 i0 _ 1 Try.underlying31 hi hz0 hz1 hz2 rfl _ (1 + L.length) _ rfl (own_mono (own_later hown8 hB8 (Nat.le_refl _)) hq8.out) A11 s.length c11 (byts s) rfl (length_byts s).symm (hsl11.later (Nat.le_refl _) hB11) (byts_one _) m1 m2 w3 rfl hB ?_; intro v12 ww312 hown12 hg _; have hqw312 : Below w3.heap.size ww311 ww312 := (Below.refl w3.heap.size ww311).grown hg hB.size (fun k hk => ((own_mono (own_later hown8 hB8 (Nat.le_refl _)) hq8.out).lt k hk).1); clear hg; rw [← byts_append] at hown12
        refine hK.out _ _ (hHeld.trans hqw312) (fun hHeld' => ?_)
        clear hK K
        try (first | (rw [put_some]; dsimp only [List.set]) | rw [put_none])
        have hB := hB.trans hqw312
        clear hB2 hB7 hB8 hB11
        have hB12 : Below ww312.heap.size ww312 ww312 := Below.refl _ _
        refine wpAnyH_narrow (S' := fun w' => Below ww312.heap.size ww312 w') (fun _ h => (hHeld.trans hqw312).trans (h.mono (hHeld.trans hqw312).size)) _ _ _ _ ?_
        clear hHeld
        have hHeld : Below ww312.heap.size ww312 ww312 := Below.refl _ _
        refine rtake 13 _ (some 2) _ rfl rfl (by kernel_rfl) (by kernel_rfl) (by kernel_rfl) (fun _ _ _ h => h) (by rfl) hHeld (by intro w hS; go_simp; try with_reducible rfl) ?_
        try (first | (rw [put_some]; dsimp only [List.set]) | rw [put_none])
        refine wpAnyH_done (by kernel_rfl) ?_ _
        refine NoPanic.normal ?_
        have hBe := hb3.trans (hB.mono hb3.size)
        clear hHeld hsl2 hsl7 hsl11 hown8
        go_wp2
        go_ret
        refine ⟨_, rfl, ?_, hBe⟩
        rw [hF.out, show ([x] ++ L ++ s).length = 1 + L.length + s.length by simp; omega]
        exact own_mono hown12 hb3.size
      · refine step_conv_string (some 14) rfl (by rfl) (.tmp 13) rfl s rfl ?_; intro A11 c11 ww311 hsl11 hqw311
        refine hK.out _ _ (hHeld.trans (hqw311.mono hHeld.size)) (fun hHeld' => ?_)
        clear hK K
        try (first | (rw [put_some]; dsimp only [List.set]) | rw [put_none])
        have hB := below_step hB hqw311
        have hB2 := below_step hB2 hqw311
        have hB7 := below_step hB7 hqw311
        have hB11 : Below ww311.heap.size ww311 ww311 := Below.refl _ _
        clear hHeld
        have hHeld := hHeld'
        refine wpAnyH_ready (rs := [8]) (by kernel_rfl) (by simp) (AllReadyH.cons (o := _) rfl (fun K hK => ?_) AllReadyH.nil)
        refine step_append_full (some 11) rfl (by rfl) (.tmp 5) (.tmp 10) 31 rfl 5 i0 _ 1 1 Try.underlying31 hi hz0 hz1 (by omega) hz2 rfl _ 0 1 (byts [x]) rfl rfl (hsl2.later (Nat.le_refl _) hB2) A7 L.length c7 (byts L) rfl (by rw [length_byts, Nat.mul_one]) hL0 (hsl7.later (Nat.le_refl _) hB7) n1 n2 ?_; intro v8 ww38 hown8 hqw38; rw [← byts_append] at hown8; have hq8 := Lib.hid (show w3.heap.size ≤ ww311.heap.size from hB.size)
        refine hK.out _ _ (hHeld.trans (hqw38.mono hHeld.size)) (fun hHeld' => ?_)
        clear hK K
        try (first | (rw [put_some]; dsimp only [List.set]) | rw [put_none])
        have hB := below_step hB hqw38
        have hB2 := below_step hB2 hqw38
        have hB7 := below_step hB7 hqw38
        have hB11 := below_step hB11 hqw38
        have hB8 : Below ww38.heap.size ww38 ww38 := Below.refl _ _
        clear hHeld
        have hHeld := hHeld'
        refine wpAnyH_ready (rs := [12]) (by kernel_rfl) (by simp) (AllReadyH.cons (o := _) rfl (fun K hK => ?_) AllReadyH.nil)
        refine step_append_at (some 15) rfl (by rfl) (.tmp 11) (.tmp 14) 31 rfl w3.heap.size 5 i0 _ 1 Try.underlying31 hi hz0 hz1 hz2 rfl _ (1 + L.length) _ rfl (own_mono (own_later hown8 hB8 (Nat.le_refl _)) hq8.out) A11 s.length c11 (byts s) rfl (length_byts s).symm (hsl11.later (Nat.le_refl _) hB11) (byts_one _) m1 m2 w3 rfl hB ?_; intro v12 ww312 hown12 hg _; have hqw312 : Below w3.heap.size ww38 ww312 := (Below.refl w3.heap.size ww38).grown hg hB.size (fun k hk => ((own_mono (own_later hown8 hB8 (Nat.le_refl _)) hq8.out).lt k hk).1); clear hg; rw [← byts_append] at hown12
        refine hK.out _ _ (hHeld.trans hqw312) (fun hHeld' => ?_)
        clear hK K
        try (first | (rw [put_some]; dsimp only [List.set]) | rw [put_none])
        have hB := hB.trans hqw312
        clear hB2 hB7 hB11 hB8
        have hB12 : Below ww312.heap.size ww312 ww312 := Below.refl _ _
        refine wpAnyH_narrow (S' := fun w' => Below ww312.heap.size ww312 w') (fun _ h => (hHeld.trans hqw312).trans (h.mono (hHeld.trans hqw312).size)) _ _ _ _ ?_
        clear hHeld
        have hHeld : Below ww312.heap.size ww312 ww312 := Below.refl _ _
        refine rtake 13 _ (some 2) _ rfl rfl (by kernel_rfl) (by kernel_rfl) (by kernel_rfl) (fun _ _ _ h => h) (by rfl) hHeld (by intro w hS; go_simp; try with_reducible rfl) ?_
        try (first | (rw [put_some]; dsimp only [List.set]) | rw [put_none])
        refine wpAnyH_done (by kernel_rfl) ?_ _
        refine NoPanic.normal ?_
        have hBe := hb3.trans (hB.mono hb3.size)
        clear hHeld hsl2 hsl7 hsl11 hown8
        go_wp2
        go_ret
        refine ⟨_, rfl, ?_, hBe⟩
        rw [hF.out, show ([x] ++ L ++ s).length = 1 + L.length + s.length by simp; omega]
        exact own_mono hown12 hb3.size
    · refine step_conv_string (some 14) rfl (by rfl) (.tmp 13) rfl s rfl ?_; intro A11 c11 ww311 hsl11 hqw311
      refine hK.out _ _ (hHeld.trans (hqw311.mono hHeld.size)) (fun hHeld' => ?_)
      clear hK K
      try (first | (rw [put_some]; dsimp only [List.set]) | rw [put_none])
      have hB := below_step hB hqw311
      have hB2 := below_step hB2 hqw311
      have hB11 : Below ww311.heap.size ww311 ww311 := Below.refl _ _
      clear hHeld
      have hHeld := hHeld'
      refine wpAnyH_ready (rs := [7]) (by kernel_rfl) (by simp) (AllReadyH.cons (o := _) rfl (fun K hK => ?_) AllReadyH.nil)
      go_simp
      refine (hnum.out _).mono ?_; rintro e ww37 ⟨v7, rfl, hown7, hqw37⟩; obtain ⟨A7, c7, rfl, _, hsl7⟩ := Sl.of_ownk hown7; clear hown7
      try go_wp2_with fail
      refine hK.out _ _ (hHeld.trans (hqw37.mono hHeld.size)) (fun hHeld' => ?_)
      clear hK K
      try (first | (rw [put_some]; dsimp only [List.set]) | rw [put_none])
      have hB := below_step hB hqw37
      have hB2 := below_step hB2 hqw37
      have hB11 := below_step hB11 hqw37
      have hB7 : Below ww37.heap.size ww37 ww37 := Below.refl _ _
      clear hHeld
      have hHeld := hHeld'
      refine wpAnyH_ready (rs := [8]) (by kernel_rfl) (by simp) (AllReadyH.cons (o := _) rfl (fun K hK => ?_) AllReadyH.nil)
      refine step_append_full (some 11) rfl (by rfl) (.tmp 5) (.tmp 10) 31 rfl 5 i0 _ 1 1 Try.underlying31 hi hz0 hz1 (by omega) hz2 rfl _ 0 1 (byts [x]) rfl rfl (hsl2.later (Nat.le_refl _) hB2) A7 L.length c7 (byts L) rfl (by rw [length_byts, Nat.mul_one]) hL0 (hsl7.later (Nat.le_refl _) hB7) n1 n2 ?_; intro v8 ww38 hown8 hqw38; rw [← byts_append] at hown8; have hq8 := Lib.hid (show w3.heap.size ≤ ww37.heap.size from hB.size)
      refine hK.out _ _ (hHeld.trans (hqw38.mono hHeld.size)) (fun hHeld' => ?_)
      clear hK K
      try (first | (rw [put_some]; dsimp only [List.set]) | rw [put_none])
      have hB := below_step hB hqw38
      have hB2 := below_step hB2 hqw38
      have hB11 := below_step hB11 hqw38
      have hB7 := below_step hB7 hqw38
      have hB8 : Below ww38.heap.size ww38 ww38 := Below.refl _ _
      clear hHeld
      have hHeld := hHeld'
      refine wpAnyH_ready (rs := [12]) (by kernel_rfl) (by simp) (AllReadyH.cons (o := _) rfl (fun K hK => ?_) AllReadyH.nil)
      refine step_append_at (some 15) rfl (by rfl) (.tmp 11) (.tmp 14) 31 rfl w3.heap.size 5 i0 _ 1 Try.underlying31 hi hz0 hz1 hz2 rfl _ (1 + L.length) _ rfl (own_mono (own_later hown8 hB8 (Nat.le_refl _)) hq8.out) A11 s.length c11 (byts s) rfl (length_byts s).symm (hsl11.later (Nat.le_refl _) hB11) (byts_one _) m1 m2 w3 rfl hB ?_; intro v12 ww312 hown12 hg _; have hqw312 : Below w3.heap.size ww38 ww312 := (Below.refl w3.heap.size ww38).grown hg hB.size (fun k hk => ((own_mono (own_later hown8 hB8 (Nat.le_refl _)) hq8.out).lt k hk).1); clear hg; rw [← byts_append] at hown12
      refine hK.out _ _ (hHeld.trans hqw312) (fun hHeld' => ?_)
      clear hK K
      try (first | (rw [put_some]; dsimp only [List.set]) | rw [put_none])
      have hB := hB.trans hqw312
      clear hB2 hB11 hB7 hB8
      have hB12 : Below ww312.heap.size ww312 ww312 := Below.refl _ _
      refine wpAnyH_narrow (S' := fun w' => Below ww312.heap.size ww312 w') (fun _ h => (hHeld.trans hqw312).trans (h.mono (hHeld.trans hqw312).size)) _ _ _ _ ?_
      clear hHeld
      have hHeld : Below ww312.heap.size ww312 ww312 := Below.refl _ _
      refine rtake 13 _ (some 2) _ rfl rfl (by kernel_rfl) (by kernel_rfl) (by kernel_rfl) (fun _ _ _ h => h) (by rfl) hHeld (by intro w hS; go_simp; try with_reducible rfl) ?_
      try (first | (rw [put_some]; dsimp only [List.set]) | rw [put_none])
      refine wpAnyH_done (by kernel_rfl) ?_ _
      refine NoPanic.normal ?_
      have hBe := hb3.trans (hB.mono hb3.size)
      clear hHeld hsl2 hsl7 hsl11 hown8
      go_wp2
      go_ret
      refine ⟨_, rfl, ?_, hBe⟩
      rw [hF.out, show ([x] ++ L ++ s).length = 1 + L.length + s.length by simp; omega]
      exact own_mono hown12 hb3.size
  · go_simp
    refine (hnum.out _).mono ?_; rintro e ww37 ⟨v7, rfl, hown7, hqw37⟩; obtain ⟨A7, c7, rfl, _, hsl7⟩ := Sl.of_ownk hown7; clear hown7
    try go_wp2_with fail
    refine hK.out _ _ (hHeld.trans (hqw37.mono hHeld.size)) (fun hHeld' => ?_)
    clear hK K
    try (first | (rw [put_some]; dsimp only [List.set]) | rw [put_none])
    have hB := below_step hB hqw37
    have hB7 : Below ww37.heap.size ww37 ww37 := Below.refl _ _
    clear hHeld
    have hHeld := hHeld'
    refine wpAnyH_ready (rs := [2, 11]) (by kernel_rfl) (by simp) (AllReadyH.cons (o := _) rfl (fun K hK => ?_) (AllReadyH.cons (o := _) rfl (fun K hK => ?_) AllReadyH.nil))
    · refine step_alloc (some 5) rfl (by rfl) (.slice (some ⟨ww37.heap.size, 0, none⟩) 1 1) (.cells (byts [x]).toArray 5) (by go_simp; try rfl) ?_; intro ww32 hw hqw32; have hsl2 : Sl ww32 (some ⟨ww37.heap.size, 0, none⟩) (1 * 1) (byts [x]) := (by rw [hw]; exact ⟨Rd.row (ys := []) (by rw [List.append_nil]; exact Row.new ww37 5 (byts [x])), Nat.le_refl _, fun h => by cases h⟩); clear hw
      refine hK.out _ _ (hHeld.trans (hqw32.mono hHeld.size)) (fun hHeld' => ?_)
      clear hK K
      try (first | (rw [put_some]; dsimp only [List.set]) | rw [put_none])
      have hB := below_step hB hqw32
      have hB7 := below_step hB7 hqw32
      have hB2 : Below ww32.heap.size ww32 ww32 := Below.refl _ _
      clear hHeld
      have hHeld := hHeld'
      refine wpAnyH_ready (rs := [8, 11]) (by kernel_rfl) (by simp) (AllReadyH.cons (o := _) rfl (fun K hK => ?_) (AllReadyH.cons (o := _) rfl (fun K hK => ?_) AllReadyH.nil))
      · refine step_append_full (some 11) rfl (by rfl) (.tmp 5) (.tmp 10) 31 rfl 5 i0 _ 1 1 Try.underlying31 hi hz0 hz1 (by omega) hz2 rfl _ 0 1 (byts [x]) rfl rfl (hsl2.later (Nat.le_refl _) hB2) A7 L.length c7 (byts L) rfl (by rw [length_byts, Nat.mul_one]) hL0 (hsl7.later (Nat.le_refl _) hB7) n1 n2 ?_; intro v8 ww38 hown8 hqw38; rw [← byts_append] at hown8; have hq8 := Lib.hid (show w3.heap.size ≤ ww32.heap.size from hB.size)
        refine hK.out _ _ (hHeld.trans (hqw38.mono hHeld.size)) (fun hHeld' => ?_)
        clear hK K
        try (first | (rw [put_some]; dsimp only [List.set]) | rw [put_none])
        have hB := below_step hB hqw38
        have hB7 := below_step hB7 hqw38
        have hB2 := below_step hB2 hqw38
        have hB8 : Below ww38.heap.size ww38 ww38 := Below.refl _ _
        clear hHeld
        have hHeld := hHeld'
        refine wpAnyH_ready (rs := [11]) (by kernel_rfl) (by simp) (AllReadyH.cons (o := _) rfl (fun K hK => ?_) AllReadyH.nil)
        refine step_conv_string (some 14) rfl (by rfl) (.tmp 13) rfl s rfl ?_; intro A11 c11 ww311 hsl11 hqw311
        refine hK.out _ _ (hHeld.trans (hqw311.mono hHeld.size)) (fun hHeld' => ?_)
        clear hK K
        try (first | (rw [put_some]; dsimp only [List.set]) | rw [put_none])
        have hB := below_step hB hqw311
        have hB7 := below_step hB7 hqw311
        have hB2 := below_step hB2 hqw311
        have hB8 := below_step hB8 hqw311
        have hB11 : Below ww311.heap.size ww311 ww311 := Below.refl _ _
        clear hHeld
        have hHeld := hHeld'
        refine wpAnyH_ready (rs := [12]) (by kernel_rfl) (by simp) (AllReadyH.cons (o := _) rfl (fun K hK => ?_) AllReadyH.nil)
        refine step_append_at (some 15) rfl (by rfl) (.tmp 11) (.tmp 14) 31 rfl w3.heap.size 5 i0 _ 1 Try.underlying31 hi hz0 hz1 hz2 rfl _ (1 + L.length) _ rfl (own_mono (own_later hown8 hB8 (Nat.le_refl _)) hq8.out) A11 s.length c11 (byts s) rfl (length_byts s).symm (hsl11.later (Nat.le_refl _) hB11) (byts_one _) m1 m2 w3 rfl hB ?_; intro v12 ww312 hown12 hg _; have hqw312 : Below w3.heap.size ww311 ww312 := (Below.refl w3.heap.size ww311).grown hg hB.size (fun k hk => ((own_mono (own_later hown8 hB8 (Nat.le_refl _)) hq8.out).lt k hk).1); clear hg; rw [← byts_append] at hown12
        refine hK.out _ _ (hHeld.trans hqw312) (fun hHeld' => ?_)
        clear hK K
        try (first | (rw [put_some]; dsimp only [List.set]) | rw [put_none])
        have hB := hB.trans hqw312
        clear hB7 hB2 hB8 hB11
        have hB12 : Below ww312.heap.size ww312 ww312 := Below.refl _ _
        refine wpAnyH_narrow (S' := fun w' => Below ww312.heap.size ww312 w') (fun _ h => (hHeld.trans hqw312).trans (h.mono (hHeld.trans hqw312).size)) _ _ _ _ ?_
        clear hHeld
        have hHeld : Below ww312.heap.size ww312 ww312 := Below.refl _ _
        refine rtake 13 _ (some 2) _ rfl rfl (by kernel_rfl) (by kernel_rfl) (by kernel_rfl) (fun _ _ _ h => h) (by rfl) hHeld (by intro w hS; go_simp; try with_reducible rfl) ?_
        try (first | (rw [put_some]; dsimp only [List.set]) | rw [put_none])
        refine wpAnyH_done (by kernel_rfl) ?_ _
        refine NoPanic.normal ?_
        have hBe := hb3.trans (hB.mono hb3.size)
        clear hHeld hsl2 hsl7 hsl11 hown8
        go_wp2
        go_ret
        refine ⟨_, rfl, ?_, hBe⟩
        rw [hF.out, show ([x] ++ L ++ s).length = 1 + L.length + s.length by simp; omega]
        exact own_mono hown12 hb3.size
      · refine step_conv_string (some 14) rfl (by rfl) (.tmp 13) rfl s rfl ?_; intro A11 c11 ww311 hsl11 hqw311
        refine hK.out _ _ (hHeld.trans (hqw311.mono hHeld.size)) (fun hHeld' => ?_)
        clear hK K
        try (first | (rw [put_some]; dsimp only [List.set]) | rw [put_none])
        have hB := below_step hB hqw311
        have hB7 := below_step hB7 hqw311
        have hB2 := below_step hB2 hqw311
        have hB11 : Below ww311.heap.size ww311 ww311 := Below.refl _ _
        clear hHeld
        have hHeld := hHeld'
        refine wpAnyH_ready (rs := [8]) (by kernel_rfl) (by simp) (AllReadyH.cons (o := _) rfl (fun K hK => ?_) AllReadyH.nil)
        refine step_append_full (some 11) rfl (by rfl) (.tmp 5) (.tmp 10) 31 rfl 5 i0 _ 1 1 Try.underlying31 hi hz0 hz1 (by omega) hz2 rfl _ 0 1 (byts [x]) rfl rfl (hsl2.later (Nat.le_refl _) hB2) A7 L.length c7 (byts L) rfl (by rw [length_byts, Nat.mul_one]) hL0 (hsl7.later (Nat.le_refl _) hB7) n1 n2 ?_; intro v8 ww38 hown8 hqw38; rw [← byts_append] at hown8; have hq8 := Lib.hid (show w3.heap.size ≤ ww311.heap.size from hB.size)
        refine hK.out _ _ (hHeld.trans (hqw38.mono hHeld.size)) (fun hHeld' => ?_)
        clear hK K
        try (first | (rw [put_some]; dsimp only [List.set]) | rw [put_none])
        have hB := below_step hB hqw38
        have hB7 := below_step hB7 hqw38
        have hB2 := below_step hB2 hqw38
        have hB11 := below_step hB11 hqw38
        have hB8 : Below ww38.heap.size ww38 ww38 := Below.refl _ _
        clear hHeld
        have hHeld := hHeld'
        refine wpAnyH_ready (rs := [12]) (by kernel_rfl) (by simp) (AllReadyH.cons (o := _) rfl (fun K hK => ?_) AllReadyH.nil)
        refine step_append_at (some 15) rfl (by rfl) (.tmp 11) (.tmp 14) 31 rfl w3.heap.size 5 i0 _ 1 Try.underlying31 hi hz0 hz1 hz2 rfl _ (1 + L.length) _ rfl (own_mono (own_later hown8 hB8 (Nat.le_refl _)) hq8.out) A11 s.length c11 (byts s) rfl (length_byts s).symm (hsl11.later (Nat.le_refl _) hB11) (byts_one _) m1 m2 w3 rfl hB ?_; intro v12 ww312 hown12 hg _; have hqw312 : Below w3.heap.size ww38 ww312 := (Below.refl w3.heap.size ww38).grown hg hB.size (fun k hk => ((own_mono (own_later hown8 hB8 (Nat.le_refl _)) hq8.out).lt k hk).1); clear hg; rw [← byts_append] at hown12
        refine hK.out _ _ (hHeld.trans hqw312) (fun hHeld' => ?_)
        clear hK K
        try (first | (rw [put_some]; dsimp only [List.set]) | rw [put_none])
        have hB := hB.trans hqw312
        clear hB7 hB2 hB11 hB8
        have hB12 : Below ww312.heap.size ww312 ww312 := Below.refl _ _
        refine wpAnyH_narrow (S' := fun w' => Below ww312.heap.size ww312 w') (fun _ h => (hHeld.trans hqw312).trans (h.mono (hHeld.trans hqw312).size)) _ _ _ _ ?_
        clear hHeld
        have hHeld : Below ww312.heap.size ww312 ww312 := Below.refl _ _
        refine rtake 13 _ (some 2) _ rfl rfl (by kernel_rfl) (by kernel_rfl) (by kernel_rfl) (fun _ _ _ h => h) (by rfl) hHeld (by intro w hS; go_simp; try with_reducible rfl) ?_
        try (first | (rw [put_some]; dsimp only [List.set]) | rw [put_none])
        refine wpAnyH_done (by kernel_rfl) ?_ _
        refine NoPanic.normal ?_
        have hBe := hb3.trans (hB.mono hb3.size)
        clear hHeld hsl2 hsl7 hsl11 hown8
        go_wp2
        go_ret
        refine ⟨_, rfl, ?_, hBe⟩
        rw [hF.out, show ([x] ++ L ++ s).length = 1 + L.length + s.length by simp; omega]
        exact own_mono hown12 hb3.size
    · refine step_conv_string (some 14) rfl (by rfl) (.tmp 13) rfl s rfl ?_; intro A11 c11 ww311 hsl11 hqw311
      refine hK.out _ _ (hHeld.trans (hqw311.mono hHeld.size)) (fun hHeld' => ?_)
      clear hK K
      try (first | (rw [put_some]; dsimp only [List.set]) | rw [put_none])
      have hB := below_step hB hqw311
      have hB7 := below_step hB7 hqw311
      have hB11 : Below ww311.heap.size ww311 ww311 := Below.refl _ _
      clear hHeld
      have hHeld := hHeld'
      refine wpAnyH_ready (rs := [2]) (by kernel_rfl) (by simp) (AllReadyH.cons (o := _) rfl (fun K hK => ?_) AllReadyH.nil)
      refine step_alloc (some 5) rfl (by rfl) (.slice (some ⟨ww311.heap.size, 0, none⟩) 1 1) (.cells (byts [x]).toArray 5) (by go_simp; try rfl) ?_; intro ww32 hw hqw32; have hsl2 : Sl ww32 (some ⟨ww311.heap.size, 0, none⟩) (1 * 1) (byts [x]) := (by rw [hw]; exact ⟨Rd.row (ys := []) (by rw [List.append_nil]; exact Row.new ww311 5 (byts [x])), Nat.le_refl _, fun h => by cases h⟩); clear hw
      refine hK.out _ _ (hHeld.trans (hqw32.mono hHeld.size)) (fun hHeld' => ?_)
      clear hK K
      try (first | (rw [put_some]; dsimp only [List.set]) | rw [put_none])
      have hB := below_step hB hqw32
      have hB7 := below_step hB7 hqw32
      have hB11 := below_step hB11 hqw32
      have hB2 : Below ww32.heap.size ww32 ww32 := Below.refl _ _
      clear hHeld
      have hHeld := hHeld'
      refine wpAnyH_ready (rs := [8]) (by kernel_rfl) (by simp) (AllReadyH.cons (o := _) rfl (fun K hK => ?_) AllReadyH.nil)
      refine step_append_full (some 11) rfl (by rfl) (.tmp 5) (.tmp 10) 31 rfl 5 i0 _ 1 1 Try.underlying31 hi hz0 hz1 (by omega) hz2 rfl _ 0 1 (byts [x]) rfl rfl (hsl2.later (Nat.le_refl _) hB2) A7 L.length c7 (byts L) rfl (by rw [length_byts, Nat.mul_one]) hL0 (hsl7.later (Nat.le_refl _) hB7) n1 n2 ?_; intro v8 ww38 hown8 hqw38; rw [← byts_append] at hown8; have hq8 := Lib.hid (show w3.heap.size ≤ ww32.heap.size from hB.size)
      refine hK.out _ _ (hHeld.trans (hqw38.mono hHeld.size)) (fun hHeld' => ?_)
      clear hK K
      try (first | (rw [put_some]; dsimp only [List.set]) | rw [put_none])
      have hB := below_step hB hqw38
      have hB7 := below_step hB7 hqw38
      have hB11 := below_step hB11 hqw38
      have hB2 := below_step hB2 hqw38
      have hB8 : Below ww38.heap.size ww38 ww38 := Below.refl _ _
      clear hHeld
      have hHeld := hHeld'
      refine wpAnyH_ready (rs := [12]) (by kernel_rfl) (by simp) (AllReadyH.cons (o := _) rfl (fun K hK => ?_) AllReadyH.nil)
      refine step_append_at (some 15) rfl (by rfl) (.tmp 11) (.tmp 14) 31 rfl w3.heap.size 5 i0 _ 1 Try.underlying31 hi hz0 hz1 hz2 rfl _ (1 + L.length) _ rfl (own_mono (own_later hown8 hB8 (Nat.le_refl _)) hq8.out) A11 s.length c11 (byts s) rfl (length_byts s).symm (hsl11.later (Nat.le_refl _) hB11) (byts_one _) m1 m2 w3 rfl hB ?_; intro v12 ww312 hown12 hg _; have hqw312 : Below w3.heap.size ww38 ww312 := (Below.refl w3.heap.size ww38).grown hg hB.size (fun k hk => ((own_mono (own_later hown8 hB8 (Nat.le_refl _)) hq8.out).lt k hk).1); clear hg; rw [← byts_append] at hown12
      refine hK.out _ _ (hHeld.trans hqw312) (fun hHeld' => ?_)
      clear hK K
      try (first | (rw [put_some]; dsimp only [List.set]) | rw [put_none])
      have hB := hB.trans hqw312
      clear hB7 hB11 hB2 hB8
      have hB12 : Below ww312.heap.size ww312 ww312 := Below.refl _ _
      refine wpAnyH_narrow (S' := fun w' => Below ww312.heap.size ww312 w') (fun _ h => (hHeld.trans hqw312).trans (h.mono (hHeld.trans hqw312).size)) _ _ _ _ ?_
      clear hHeld
      have hHeld : Below ww312.heap.size ww312 ww312 := Below.refl _ _
      refine rtake 13 _ (some 2) _ rfl rfl (by kernel_rfl) (by kernel_rfl) (by kernel_rfl) (fun _ _ _ h => h) (by rfl) hHeld (by intro w hS; go_simp; try with_reducible rfl) ?_
      try (first | (rw [put_some]; dsimp only [List.set]) | rw [put_none])
      refine wpAnyH_done (by kernel_rfl) ?_ _
      refine NoPanic.normal ?_
      have hBe := hb3.trans (hB.mono hb3.size)
      clear hHeld hsl2 hsl7 hsl11 hown8
      go_wp2
      go_ret
      refine ⟨_, rfl, ?_, hBe⟩
      rw [hF.out, show ([x] ++ L ++ s).length = 1 + L.length + s.length by simp; omega]
      exact own_mono hown12 hb3.size
  · refine step_conv_string (some 14) rfl (by rfl) (.tmp 13) rfl s rfl ?_; intro A11 c11 ww311 hsl11 hqw311
    refine hK.out _ _ (hHeld.trans (hqw311.mono hHeld.size)) (fun hHeld' => ?_)
    clear hK K
    try (first | (rw [put_some]; dsimp only [List.set]) | rw [put_none])
    have hB := below_step hB hqw311
    have hB11 : Below ww311.heap.size ww311 ww311 := Below.refl _ _
    clear hHeld
    have hHeld := hHeld'
    refine wpAnyH_ready (rs := [2, 7]) (by kernel_rfl) (by simp) (AllReadyH.cons (o := _) rfl (fun K hK => ?_) (AllReadyH.cons (o := _) rfl (fun K hK => ?_) AllReadyH.nil))
    · refine step_alloc (some 5) rfl (by rfl) (.slice (some ⟨ww311.heap.size, 0, none⟩) 1 1) (.cells (byts [x]).toArray 5) (by go_simp; try rfl) ?_; intro ww32 hw hqw32; have hsl2 : Sl ww32 (some ⟨ww311.heap.size, 0, none⟩) (1 * 1) (byts [x]) := (by rw [hw]; exact ⟨Rd.row (ys := []) (by rw [List.append_nil]; exact Row.new ww311 5 (byts [x])), Nat.le_refl _, fun h => by cases h⟩); clear hw
      refine hK.out _ _ (hHeld.trans (hqw32.mono hHeld.size)) (fun hHeld' => ?_)
      clear hK K
      try (first | (rw [put_some]; dsimp only [List.set]) | rw [put_none])
      have hB := below_step hB hqw32
      have hB11 := below_step hB11 hqw32
      have hB2 : Below ww32.heap.size ww32 ww32 := Below.refl _ _
      clear hHeld
      have hHeld := hHeld'
      refine wpAnyH_ready (rs := [7]) (by kernel_rfl) (by simp) (AllReadyH.cons (o := _) rfl (fun K hK => ?_) AllReadyH.nil)
      go_simp
      refine (hnum.out _).mono ?_; rintro e ww37 ⟨v7, rfl, hown7, hqw37⟩; obtain ⟨A7, c7, rfl, _, hsl7⟩ := Sl.of_ownk hown7; clear hown7
      try go_wp2_with fail
      refine hK.out _ _ (hHeld.trans (hqw37.mono hHeld.size)) (fun hHeld' => ?_)
      clear hK K
      try (first | (rw [put_some]; dsimp only [List.set]) | rw [put_none])
      have hB := below_step hB hqw37
      have hB11 := below_step hB11 hqw37
      have hB2 := below_step hB2 hqw37
      have hB7 : Below ww37.heap.size ww37 ww37 := Below.refl _ _
      clear hHeld
      have hHeld := hHeld'
      refine wpAnyH_ready (rs := [8]) (by kernel_rfl) (by simp) (AllReadyH.cons (o := _) rfl (fun K hK => ?_) AllReadyH.nil)
      refine step_append_full (some 11) rfl (by rfl) (.tmp 5) (.tmp 10) 31 rfl 5 i0 _ 1 1 Try.underlying31 hi hz0 hz1 (by omega) hz2 rfl _ 0 1 (byts [x]) rfl rfl (hsl2.later (Nat.le_refl _) hB2) A7 L.length c7 (byts L) rfl (by rw [length_byts, Nat.mul_one]) hL0 (hsl7.later (Nat.le_refl _) hB7) n1 n2 ?_; intro v8 ww38 hown8 hqw38; rw [← byts_append] at hown8; have hq8 := Lib.hid (show w3.heap.size ≤ ww37.heap.size from hB.size)
      refine hK.out _ _ (hHeld.trans (hqw38.mono hHeld.size)) (fun hHeld' => ?_)
      clear hK K
      try (first | (rw [put_some]; dsimp only [List.set]) | rw [put_none])
      have hB := below_step hB hqw38
      have hB11 := below_step hB11 hqw38
      have hB2 := below_step hB2 hqw38
      have hB7 := below_step hB7 hqw38
      have hB8 : Below ww38.heap.size ww38 ww38 := Below.refl _ _
      clear hHeld
      have hHeld := hHeld'
      refine wpAnyH_ready (rs := [12]) (by kernel_rfl) (by simp) (AllReadyH.cons (o := _) rfl (fun K hK => ?_) AllReadyH.nil)
      refine step_append_at (some 15) rfl (by rfl) (.tmp 11) (.tmp 14) 31 rfl w3.heap.size 5 i0 _ 1 Try.underlying31 hi hz0 hz1 hz2 rfl _ (1 + L.length) _ rfl (own_mono (own_later hown8 hB8 (Nat.le_refl _)) hq8.out) A11 s.length c11 (byts s) rfl (length_byts s).symm (hsl11.later (Nat.le_refl _) hB11) (byts_one _) m1 m2 w3 rfl hB ?_; intro v12 ww312 hown12 hg _; have hqw312 : Below w3.heap.size ww38 ww312 := (Below.refl w3.heap.size ww38).grown hg hB.size (fun k hk => ((own_mono (own_later hown8 hB8 (Nat.le_refl _)) hq8.out).lt k hk).1); clear hg; rw [← byts_append] at hown12
      refine hK.out _ _ (hHeld.trans hqw312) (fun hHeld' => ?_)
      clear hK K
      try (first | (rw [put_some]; dsimp only [List.set]) | rw [put_none])
      have hB := hB.trans hqw312
      clear hB11 hB2 hB7 hB8
      have hB12 : Below ww312.heap.size ww312 ww312 := Below.refl _ _
      refine wpAnyH_narrow (S' := fun w' => Below ww312.heap.size ww312 w') (fun _ h => (hHeld.trans hqw312).trans (h.mono (hHeld.trans hqw312).size)) _ _ _ _ ?_
      clear hHeld
      have hHeld : Below ww312.heap.size ww312 ww312 := Below.refl _ _
      refine rtake 13 _ (some 2) _ rfl rfl (by kernel_rfl) (by kernel_rfl) (by kernel_rfl) (fun _ _ _ h => h) (by rfl) hHeld (by intro w hS; go_simp; try with_reducible rfl) ?_
      try (first | (rw [put_some]; dsimp only [List.set]) | rw [put_none])
      refine wpAnyH_done (by kernel_rfl) ?_ _
      refine NoPanic.normal ?_
      have hBe := hb3.trans (hB.mono hb3.size)
      clear hHeld hsl2 hsl7 hsl11 hown8
      go_wp2
      go_ret
      refine ⟨_, rfl, ?_, hBe⟩
      rw [hF.out, show ([x] ++ L ++ s).length = 1 + L.length + s.length by simp; omega]
      exact own_mono hown12 hb3.size
    · go_simp
      refine (hnum.out _).mono ?_; rintro e ww37 ⟨v7, rfl, hown7, hqw37⟩; obtain ⟨A7, c7, rfl, _, hsl7⟩ := Sl.of_ownk hown7; clear hown7
      try go_wp2_with fail
      refine hK.out _ _ (hHeld.trans (hqw37.mono hHeld.size)) (fun hHeld' => ?_)
      clear hK K
      try (first | (rw [put_some]; dsimp only [List.set]) | rw [put_none])
      have hB := below_step hB hqw37
      have hB11 := below_step hB11 hqw37
      have hB7 : Below ww37.heap.size ww37 ww37 := Below.refl _ _
      clear hHeld
      have hHeld := hHeld'
      refine wpAnyH_ready (rs := [2]) (by kernel_rfl) (by simp) (AllReadyH.cons (o := _) rfl (fun K hK => ?_) AllReadyH.nil)
      refine step_alloc (some 5) rfl (by rfl) (.slice (some ⟨ww37.heap.size, 0, none⟩) 1 1) (.cells (byts [x]).toArray 5) (by go_simp; try rfl) ?_; intro ww32 hw hqw32; have hsl2 : Sl ww32 (some ⟨ww37.heap.size, 0, none⟩) (1 * 1) (byts [x]) := (by rw [hw]; exact ⟨Rd.row (ys := []) (by rw [List.append_nil]; exact Row.new ww37 5 (byts [x])), Nat.le_refl _, fun h => by cases h⟩); clear hw
      refine hK.out _ _ (hHeld.trans (hqw32.mono hHeld.size)) (fun hHeld' => ?_)
      clear hK K
      try (first | (rw [put_some]; dsimp only [List.set]) | rw [put_none])
      have hB := below_step hB hqw32
      have hB11 := below_step hB11 hqw32
      have hB7 := below_step hB7 hqw32
      have hB2 : Below ww32.heap.size ww32 ww32 := Below.refl _ _
      clear hHeld
      have hHeld := hHeld'
      refine wpAnyH_ready (rs := [8]) (by kernel_rfl) (by simp) (AllReadyH.cons (o := _) rfl (fun K hK => ?_) AllReadyH.nil)
      refine step_append_full (some 11) rfl (by rfl) (.tmp 5) (.tmp 10) 31 rfl 5 i0 _ 1 1 Try.underlying31 hi hz0 hz1 (by omega) hz2 rfl _ 0 1 (byts [x]) rfl rfl (hsl2.later (Nat.le_refl _) hB2) A7 L.length c7 (byts L) rfl (by rw [length_byts, Nat.mul_one]) hL0 (hsl7.later (Nat.le_refl _) hB7) n1 n2 ?_; intro v8 ww38 hown8 hqw38; rw [← byts_append] at hown8; have hq8 := Lib.hid (show w3.heap.size ≤ ww32.heap.size from hB.size)
      refine hK.out _ _ (hHeld.trans (hqw38.mono hHeld.size)) (fun hHeld' => ?_)
      clear hK K
      try (first | (rw [put_some]; dsimp only [List.set]) | rw [put_none])
      have hB := below_step hB hqw38
      have hB11 := below_step hB11 hqw38
      have hB7 := below_step hB7 hqw38
      have hB2 := below_step hB2 hqw38
      have hB8 : Below ww38.heap.size ww38 ww38 := Below.refl _ _
      clear hHeld
      have hHeld := hHeld'
      refine wpAnyH_ready (rs := [12]) (by kernel_rfl) (by simp) (AllReadyH.cons (o := _) rfl (fun K hK => ?_) AllReadyH.nil)
      refine step_append_at (some 15) rfl (by rfl) (.tmp 11) (.tmp 14) 31 rfl w3.heap.size 5 i0 _ 1 Try.underlying31 hi hz0 hz1 hz2 rfl _ (1 + L.length) _ rfl (own_mono (own_later hown8 hB8 (Nat.le_refl _)) hq8.out) A11 s.length c11 (byts s) rfl (length_byts s).symm (hsl11.later (Nat.le_refl _) hB11) (byts_one _) m1 m2 w3 rfl hB ?_; intro v12 ww312 hown12 hg _; have hqw312 : Below w3.heap.size ww38 ww312 := (Below.refl w3.heap.size ww38).grown hg hB.size (fun k hk => ((own_mono (own_later hown8 hB8 (Nat.le_refl _)) hq8.out).lt k hk).1); clear hg; rw [← byts_append] at hown12
      refine hK.out _ _ (hHeld.trans hqw312) (fun hHeld' => ?_)
      clear hK K
      try (first | (rw [put_some]; dsimp only [List.set]) | rw [put_none])
      have hB := hB.trans hqw312
      clear hB11 hB7 hB2 hB8
      have hB12 : Below ww312.heap.size ww312 ww312 := Below.refl _ _
      refine wpAnyH_narrow (S' := fun w' => Below ww312.heap.size ww312 w') (fun _ h => (hHeld.trans hqw312).trans (h.mono (hHeld.trans hqw312).size)) _ _ _ _ ?_
      clear hHeld
      have hHeld : Below ww312.heap.size ww312 ww312 := Below.refl _ _
      refine rtake 13 _ (some 2) _ rfl rfl (by kernel_rfl) (by kernel_rfl) (by kernel_rfl) (fun _ _ _ h => h) (by rfl) hHeld (by intro w hS; go_simp; try with_reducible rfl) ?_
      try (first | (rw [put_some]; dsimp only [List.set]) | rw [put_none])
      refine wpAnyH_done (by kernel_rfl) ?_ _
      refine NoPanic.normal ?_
      have hBe := hb3.trans (hB.mono hb3.size)
      clear hHeld hsl2 hsl7 hsl11 hown8
      go_wp2
      go_ret
      refine ⟨_, rfl, ?_, hBe⟩
      rw [hF.out, show ([x] ++ L ++ s).length = 1 + L.length + s.length by simp; omega]
      exact own_mono hown12 hb3.size
end Go.Proofs.Ythiebbhooigogaa
