/- LAYER 8, VarintTells: the walk of the law. -/
import Derived.Test.YtgdfahmhjjcpoaaVa
namespace Go.Proofs.Ytgdfahmhjjcpoaa
open Go Go.RowKit

set_option maxRecDepth 100000 in
set_option maxHeartbeats 4000000 in
theorem vtells_walk (A : Option Addr) (n c : Nat) (l : List UInt8) (m : Nat) (hm : m < 18446744073709551616) (w : World) (hs : Sl w A c (byts l)) (hn : n = l.length) (hlm : l.length ≤ 9223372036854775807) :
    Calls Try.prog 3 #[.slice A n c, .int .u64 m] w fun e w' => e = .returned (.bool true) ∧ Below w.heap.size w w' := by
  subst hn
  obtain ⟨i0, hi, hz0, hz1, hz2⟩ := info_parts infoByte
  by_cases h300 : 300 < l.length
  · go_enter Try.func3, Try.ntmps3
    go_wp2_with (go_at_call 5; refine (valive_any _).mono ?_; rintro e w1 ⟨rfl, hb1⟩)
    go_ret
    exact ⟨rfl, hb1⟩
  have hle : l.length ≤ 300 := by omega
  have hlL := length_varL m
  obtain ⟨L, hL⟩ : ∃ L, L = varL m := ⟨_, rfl⟩
  rw [← hL] at hlL
  have n1 : 0 + l.length ≤ maxLen := by unfold maxLen; omega
  have n2 : (0 + l.length) * 1 ≤ 140737488355328 := by omega
  have m1 : l.length + L.length ≤ maxLen := by unfold maxLen; omega
  have m2 : (l.length + L.length) * 1 ≤ 140737488355328 := by omega
  obtain ⟨G, hG⟩ : ∃ G, G = getL l := ⟨_, rfl⟩
  obtain ⟨g1, g2⟩ := G
  have hgt := Lib.hid (show ∀ w1, Sl w1 A c (byts l) → Calls Try.prog 6 #[.slice A l.length c] w1 fun e w' => e = .returned (.tuple #[.int .u64 g1, .int .i64 g2]) ∧ Below w1.heap.size w1 w' by
    intro w1 h
    have h := vget_any A l.length c l w1 h rfl (by omega)
    rw [← hG] at h
    exact h)
  have hrg := Lib.hid (show ∀ w1, Sl w1 A c (byts l) → Calls Try.prog 7 #[.slice A l.length c] w1 fun e w' => e = .returned (.tuple #[.int .u64 g1, .int .i64 g2]) ∧ Below w1.heap.size w1 w' by
    intro w1 h
    have h := rget8_any A l.length c l w1 h rfl (by omega)
    rw [← hG] at h
    exact h)
  have hput := Lib.hid (show ∀ w1 B d, Sl w1 B d (byts l) → Calls Try.prog 8 #[.slice B l.length d, .int .u64 m] w1 (GaveBytes (l ++ L) w1) by
    rw [hL]; exact fun w1 B d h => vput_any B l.length d l m hm w1 h rfl (by omega))
  have hbyt := Lib.hid (show ∀ w1, Calls Try.prog 9 #[.int .u64 m] w1 (GaveBytes L w1) by
    rw [hL]; exact fun w1 => rbytes8_any m hm w1)
  have hsiz := Lib.hid (show ∀ w1, Calls Try.prog 10 #[.int .u64 m] w1 fun e w' => e = .returned (.int .i64 (L.length : Int)) ∧ Below w1.heap.size w1 w' by
    rw [hL]; exact fun w1 => vsize_any m hm w1)
  have HLl := Lib.hid (show l.length = (byts l).length from (length_byts l).symm)
  have HLL := Lib.hid (show L.length = (byts L).length from (length_byts L).symm)
  clear hL hG h300 hlm hm
  go_enter Try.func3, Try.ntmps3
  go_wp2_with (first
    | (go_at_call 5; refine (valive_any _).mono ?_; rintro e w3 ⟨rfl, hb3⟩; have hs3 := hs.later (Nat.le_refl _) hb3)
    | (go_at_call 6; refine (hgt.out _ hs3).mono ?_; rintro e w4 ⟨rfl, hb4⟩; have hbw4 := hb3.trans (hb4.mono hb3.size); have hs4 := hs3.later (Nat.le_refl _) hb4; clear hb4 hs3)
    | (go_at_call 7; refine (hrg.out _ hs4).mono ?_; rintro e w5 ⟨rfl, hb5⟩; have hbw5 := hbw4.trans (hb5.mono hbw4.size); have hs5 := hs4.later (Nat.le_refl _) hb5; have hown5 : (w5.alloc (.cells #[] 5)).ownsRow w.heap.size 5 1 (.slice (some ⟨w5.heap.size, 0, none⟩) 0 0) 0 [] := World.ownsRow_lit w5 #[] 0 hbw5.size (by unfold maxLen; omega) rfl; have hb5a := hbw5.alloc hbw5.size (.cells #[] 5); clear hb5 hs4)
    | (at_builtin; refine wpList_append_sl rfl (.tmp 25) (.tmp 26) 22 rfl w.heap.size 5 i0 _ 1 Try.underlying22 hi hz0 hz1 hz2 rfl _ 0 [] rfl hown5 A l.length c (byts l) rfl HLl.out (hs.later (Nat.le_refl _) hb5a) (byts_one _) n1 n2 hb5a.size ?_; intro v6 w6 hown6 hg6; have hbw6 : Below w.heap.size w w6 := hb5a.grown hg6 hb5a.size (fun k hk => (hown5.lt k hk).1); rw [Nat.zero_add, List.nil_append] at hown6; obtain ⟨A6, c6, rfl, _, hsl6⟩ := Sl.of_own hown6; clear hg6 hown5 hown6 hb5a)
    | (go_at_call 8; refine (hput.out _ _ _ hsl6).mono ?_; rintro e w8 ⟨v8, rfl, hown8, hb8⟩; obtain ⟨A8, c8, rfl, _, hslO⟩ := Sl.of_own hown8; have hbw8 := hbw6.trans (hb8.mono hbw6.size); have hs8 := hs.later (Nat.le_refl _) hbw8; clear hown8 hb8 hsl6))
  refine wp_region_noPanic ?_
  refine wp_region_held_drew (S := fun w' => Below w8.heap.size w8 w') (by kernel_rfl) ((Below.refl _ _).drew) (fun hHeld => ?_)
  have hB := hHeld
  refine rtake 0 _ (some 30) _ rfl rfl (by kernel_rfl) (by kernel_rfl) (by kernel_rfl) (fun _ _ _ h => h) (by rfl) hHeld (by intro w hS; go_simp; try with_reducible rfl) ?_
  try (first | (rw [put_some]; dsimp only [List.set]) | rw [put_none])
  refine rtake 1 _ (some 31) _ rfl rfl (by kernel_rfl) (by kernel_rfl) (by kernel_rfl) (fun _ _ _ h => h) (by rfl) hHeld (by intro w hS; go_simp; try with_reducible rfl) ?_
  try (first | (rw [put_some]; dsimp only [List.set]) | rw [put_none])
  refine rtake 2 _ (some 32) _ rfl rfl (by kernel_rfl) (by kernel_rfl) (by kernel_rfl) (fun _ _ _ h => h) (by rfl) hHeld (by intro w hS; go_simp; try with_reducible rfl) ?_
  try (first | (rw [put_some]; dsimp only [List.set]) | rw [put_none])
  refine rtake 3 _ (some 33) _ rfl rfl (by kernel_rfl) (by kernel_rfl) (by kernel_rfl) (fun _ _ _ h => h) (by rfl) hHeld (by intro w hS; go_simp; try with_reducible rfl) ?_
  try (first | (rw [put_some]; dsimp only [List.set]) | rw [put_none])
  refine rtake 4 _ (some 34) _ rfl rfl (by kernel_rfl) (by kernel_rfl) (by kernel_rfl) (fun _ _ _ h => h) (by rfl) hHeld (by intro w hS; go_simp; try with_reducible rfl) ?_
  try (first | (rw [put_some]; dsimp only [List.set]) | rw [put_none])
  refine rtake 5 _ (some 35) _ rfl rfl (by kernel_rfl) (by kernel_rfl) (by kernel_rfl) (fun _ _ _ h => h) (by rfl) hHeld (by intro w hS; go_simp; try with_reducible rfl) ?_
  try (first | (rw [put_some]; dsimp only [List.set]) | rw [put_none])
  refine rtake 6 _ (some 36) _ rfl rfl (by kernel_rfl) (by kernel_rfl) (by kernel_rfl) (fun _ _ _ h => h) (by rfl) hHeld (by intro w hS; go_simp; try with_reducible rfl) ?_
  try (first | (rw [put_some]; dsimp only [List.set]) | rw [put_none])
  refine rtake 7 _ (some 37) _ rfl rfl (by kernel_rfl) (by kernel_rfl) (by kernel_rfl) (fun _ _ _ h => h) (by rfl) hHeld (by intro w hS; go_simp; try with_reducible rfl) ?_
  try (first | (rw [put_some]; dsimp only [List.set]) | rw [put_none])
  refine rtake 8 _ (some 38) _ rfl rfl (by kernel_rfl) (by kernel_rfl) (by kernel_rfl) (fun _ _ _ h => h) (by rfl) hHeld (by intro w hS; go_simp; try with_reducible rfl) ?_
  try (first | (rw [put_some]; dsimp only [List.set]) | rw [put_none])
  refine rtake 9 _ (some 39) _ rfl rfl (by kernel_rfl) (by kernel_rfl) (by kernel_rfl) (fun _ _ _ h => h) (by rfl) hHeld (by intro w hS; go_simp; try with_reducible rfl) ?_
  try (first | (rw [put_some]; dsimp only [List.set]) | rw [put_none])
  have hcvO := conv_later hslO (l.length + L.length) List.length_append.symm
  refine rtake 10 _ (some 40) _ rfl rfl (by kernel_rfl) (by kernel_rfl) (by kernel_rfl) (fun _ _ _ h => h) (by rfl) hHeld (by intro w hS; go_simp; try with_reducible rfl) ?_
  try (first | (rw [put_some]; dsimp only [List.set]) | rw [put_none])
  refine rtake 12 _ (some 42) _ rfl rfl (by kernel_rfl) (by kernel_rfl) (by kernel_rfl) (fun _ _ _ h => h) (by rfl) hHeld (by intro w hS; go_simp; try with_reducible rfl) ?_
  try (first | (rw [put_some]; dsimp only [List.set]) | rw [put_none])
  refine rtake 14 _ (some 44) _ rfl rfl (by kernel_rfl) (by kernel_rfl) (by kernel_rfl) (fun _ _ _ h => h) (by rfl) hHeld (by intro w hS; go_simp; try with_reducible rfl) ?_
  try (first | (rw [put_some]; dsimp only [List.set]) | rw [put_none])
  refine wpAnyH_ready (rs := [11]) (by kernel_rfl) (by simp) (AllReadyH.cons (o := _) rfl (fun K hK => ?_) AllReadyH.nil)
  refine step_alloc (some 41) rfl (by rfl) (.slice (some ⟨w8.heap.size, 0, none⟩) 0 0) (.cells #[] 5) (by go_simp; try rfl) ?_; intro ww811 hw hqw811; have hown11 : World.ownsRow ww811 w8.heap.size 5 1 (.slice (some ⟨w8.heap.size, 0, none⟩) 0 0) 0 [] := (by rw [hw]; exact World.ownsRow_lit w8.drew #[] 0 (Nat.le_refl _) (by unfold maxLen; omega) rfl); clear hw
  refine hK.out _ _ (hHeld.trans (hqw811.mono hHeld.size)) (fun hHeld' => ?_)
  clear hK K
  try (first | (rw [put_some]; dsimp only [List.set]) | rw [put_none])
  have hB := below_step hB hqw811
  have hB11 : Below ww811.heap.size ww811 ww811 := Below.refl _ _
  clear hHeld
  have hHeld := hHeld'
  refine wpAnyH_ready (rs := [13]) (by kernel_rfl) (by simp) (AllReadyH.cons (o := _) rfl (fun K hK => ?_) AllReadyH.nil)
  refine step_append_at (some 43) rfl (by rfl) (.tmp 41) (.tmp 42) 22 rfl w8.heap.size 5 i0 _ 1 Try.underlying22 hi hz0 hz1 hz2 rfl _ 0 _ rfl hown11 A l.length c _ rfl HLl.out (hs8.later (Nat.le_refl _) hB) (byts_one _) n1 n2 w8 rfl hB ?_; intro v13 ww813 hown13 hg _; have hqw813 : Below w8.heap.size ww811 ww813 := (Below.refl w8.heap.size ww811).grown hg hB.size (fun k hk => (hown11.lt k hk).1); clear hg; rw [Nat.zero_add, List.nil_append] at hown13; clear hown11
  refine hK.out _ _ (hHeld.trans hqw813) (fun hHeld' => ?_)
  clear hK K
  try (first | (rw [put_some]; dsimp only [List.set]) | rw [put_none])
  have hB := hB.trans hqw813
  clear hB11
  have hB13 : Below ww813.heap.size ww813 ww813 := Below.refl _ _
  clear hHeld
  have hHeld := hHeld'
  refine wpAnyH_ready (rs := [15]) (by kernel_rfl) (by simp) (AllReadyH.cons (o := _) rfl (fun K hK => ?_) AllReadyH.nil)
  go_simp
  refine (hbyt.out _).mono ?_; rintro e ww815 ⟨v15, rfl, hown15, hqw815⟩; obtain ⟨A15, c15, rfl, _, hsl15⟩ := Sl.of_own hown15; have hown13 := own_later hown13 hqw815 (Nat.le_refl _); clear hown15
  try go_wp2_with fail
  refine hK.out _ _ (hHeld.trans (hqw815.mono hHeld.size)) (fun hHeld' => ?_)
  clear hK K
  try (first | (rw [put_some]; dsimp only [List.set]) | rw [put_none])
  have hB := below_step hB hqw815
  have hB13 := below_step hB13 hqw815
  have hB15 : Below ww815.heap.size ww815 ww815 := Below.refl _ _
  clear hHeld
  have hHeld := hHeld'
  refine wpAnyH_ready (rs := [16]) (by kernel_rfl) (by simp) (AllReadyH.cons (o := _) rfl (fun K hK => ?_) AllReadyH.nil)
  refine step_append_at (some 46) rfl (by rfl) (.tmp 43) (.tmp 45) 22 rfl w8.heap.size 5 i0 _ 1 Try.underlying22 hi hz0 hz1 hz2 rfl _ l.length _ rfl hown13 A15 L.length c15 _ rfl HLL.out hsl15 (byts_one _) m1 m2 w8 rfl hB ?_; intro v16 ww816 hown16 hg _; have hqw816 : Below w8.heap.size ww815 ww816 := (Below.refl w8.heap.size ww815).grown hg hB.size (fun k hk => (hown13.lt k hk).1); clear hg; rw [← byts_append] at hown16; obtain ⟨A16, c16, rfl, _, hsl16⟩ := Sl.of_own hown16; clear hown13 hown16
  refine hK.out _ _ (hHeld.trans hqw816) (fun hHeld' => ?_)
  clear hK K
  try (first | (rw [put_some]; dsimp only [List.set]) | rw [put_none])
  have hB := hB.trans hqw816
  clear hB13 hB15
  have hB16 : Below ww816.heap.size ww816 ww816 := Below.refl _ _
  refine wpAnyH_narrow (S' := fun w' => Below ww816.heap.size ww816 w') (fun _ h => (hHeld.trans hqw816).trans (h.mono (hHeld.trans hqw816).size)) _ _ _ _ ?_
  clear hHeld
  have hHeld : Below ww816.heap.size ww816 ww816 := Below.refl _ _
  have hcvP := conv_later hsl16 (l.length + L.length) List.length_append.symm
  refine rtake 17 _ (some 47) _ rfl rfl (by kernel_rfl) (by kernel_rfl) (by kernel_rfl) (fun _ _ _ h => h) (by rfl) hHeld (by intro w hS; go_simp; try with_reducible rfl) ?_
  try (first | (rw [put_some]; dsimp only [List.set]) | rw [put_none])
  refine rtake 18 _ (some 48) _ rfl rfl (by kernel_rfl) (by kernel_rfl) (by kernel_rfl) (fun _ _ _ h => h) (by rfl) hHeld (by intro w hS; go_simp; try with_reducible rfl) ?_
  try (first | (rw [put_some]; dsimp only [List.set]) | rw [put_none])
  refine rtake 19 _ (some 49) _ rfl rfl (by kernel_rfl) (by kernel_rfl) (by kernel_rfl) (fun _ _ _ h => h) (by rfl) hHeld (by intro w hS; go_simp; try with_reducible rfl) ?_
  try (first | (rw [put_some]; dsimp only [List.set]) | rw [put_none])
  refine rtake 20 _ (some 50) _ rfl rfl (by kernel_rfl) (by kernel_rfl) (by kernel_rfl) (fun _ _ _ h => h) (by rfl) hHeld (by intro w hS; go_simp; try with_reducible rfl) ?_
  try (first | (rw [put_some]; dsimp only [List.set]) | rw [put_none])
  refine rtake 21 _ (some 51) _ rfl rfl (by kernel_rfl) (by kernel_rfl) (by kernel_rfl) (fun _ _ _ h => h) (by rfl) hHeld (by intro w hS; go_simp; try with_reducible rfl) ?_
  try (first | (rw [put_some]; dsimp only [List.set]) | rw [put_none])
  refine rtake 23 _ (some 53) _ rfl rfl (by kernel_rfl) (by kernel_rfl) (by kernel_rfl) (fun _ _ _ h => h) (by rfl) hHeld (by intro w hS; go_simp; try with_reducible rfl) ?_
  try (first | (rw [put_some]; dsimp only [List.set]) | rw [put_none])
  refine wpAnyH_ready (rs := [22]) (by kernel_rfl) (by simp) (AllReadyH.cons (o := _) rfl (fun K hK => ?_) AllReadyH.nil)
  go_simp
  refine (hsiz.out _).mono ?_; rintro e ww822 ⟨rfl, hqw822⟩
  try go_wp2_with fail
  refine hK.out _ _ (hHeld.trans (hqw822.mono hHeld.size)) (fun hHeld' => ?_)
  clear hK K
  try (first | (rw [put_some]; dsimp only [List.set]) | rw [put_none])
  have hB := below_step hB hqw822
  have hB16 := below_step hB16 hqw822
  have hB22 : Below ww822.heap.size ww822 ww822 := Below.refl _ _
  refine wpAnyH_narrow (S' := fun w' => Below ww822.heap.size ww822 w') (fun _ h => (hHeld.trans (hqw822.mono hHeld.size)).trans (h.mono (hHeld.trans (hqw822.mono hHeld.size)).size)) _ _ _ _ ?_
  clear hHeld
  have hHeld : Below ww822.heap.size ww822 ww822 := Below.refl _ _
  refine wpAnyH_ready (rs := [24]) (by kernel_rfl) (by simp) (AllReadyH.cons (o := _) rfl (fun K hK => ?_) AllReadyH.nil)
  go_simp
  refine (hbyt.out _).mono ?_; rintro e ww824 ⟨v24, rfl, hown24, hqw824⟩; obtain ⟨A24, c24, rfl, _, hsl24⟩ := Sl.of_own hown24; clear hown24
  try go_wp2_with fail
  refine hK.out _ _ (hHeld.trans (hqw824.mono hHeld.size)) (fun hHeld' => ?_)
  clear hK K
  try (first | (rw [put_some]; dsimp only [List.set]) | rw [put_none])
  have hB := below_step hB hqw824
  have hB16 := below_step hB16 hqw824
  have hB22 := below_step hB22 hqw824
  have hB24 : Below ww824.heap.size ww824 ww824 := Below.refl _ _
  refine wpAnyH_narrow (S' := fun w' => Below ww824.heap.size ww824 w') (fun _ h => (hHeld.trans (hqw824.mono hHeld.size)).trans (h.mono (hHeld.trans (hqw824.mono hHeld.size)).size)) _ _ _ _ ?_
  clear hHeld
  have hHeld : Below ww824.heap.size ww824 ww824 := Below.refl _ _
  refine rtake 25 _ (some 55) _ rfl rfl (by kernel_rfl) (by kernel_rfl) (by kernel_rfl) (fun _ _ _ h => h) (by rfl) hHeld (by intro w hS; go_simp; try with_reducible rfl) ?_
  try (first | (rw [put_some]; dsimp only [List.set]) | rw [put_none])
  refine rtake 26 _ (some 56) _ rfl rfl (by kernel_rfl) (by kernel_rfl) (by kernel_rfl) (fun _ _ _ h => h) (by rfl) hHeld (by intro w hS; go_simp; try with_reducible rfl) ?_
  try (first | (rw [put_some]; dsimp only [List.set]) | rw [put_none])
  refine rtake 27 _ (some 57) _ rfl rfl (by kernel_rfl) (by kernel_rfl) (by kernel_rfl) (fun _ _ _ h => h) (by rfl) hHeld (by intro w hS; go_simp; try with_reducible rfl) ?_
  try (first | (rw [put_some]; dsimp only [List.set]) | rw [put_none])
  refine rtake 28 _ (some 4) _ rfl rfl (by kernel_rfl) (by kernel_rfl) (by kernel_rfl) (fun _ _ _ h => h) (by rfl) hHeld (by intro w hS; go_simp; try with_reducible rfl) ?_
  try (first | (rw [put_some]; dsimp only [List.set]) | rw [put_none])
  refine wpAnyH_done (by kernel_rfl) ?_ _
  refine NoPanic.normal ?_
  have hBe := hbw8.trans (hB.mono hbw8.size)
  clear hcvO hcvP hsl16 hsl24 hsl15 hHeld
  go_wp2
  go_ret
  exact ⟨rfl, hBe⟩
end Go.Proofs.Ytgdfahmhjjcpoaa
