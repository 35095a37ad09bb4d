/- LAYER 8, VarintBack: the walk of the law. -/
import Derived.Test.YtgdfahmhjjcpoaaL8Tells
namespace Go.Proofs.Ytgdfahmhjjcpoaa
open Go Go.RowKit

set_option maxRecDepth 100000 in
set_option maxHeartbeats 4000000 in
theorem vback_walk (m : Nat) (hm : m < 18446744073709551616) (A : Option Addr) (n c : Nat) (l : List UInt8) (w : World) (hs : Sl w A c (byts l)) (hn : n = l.length) (hlm : l.length ≤ 9223372036854775807) :
    Calls Try.prog 4 #[.int .u64 m, .slice A n c] w fun e w' => e = .returned (.bool true) ∧ Below w.heap.size w w' := by
  subst hn
  obtain ⟨i0, hi, hz0, hz1, hz2⟩ := info_parts infoByte
  by_cases h300 : 300 < l.length
  · go_enter Try.func4, Try.ntmps4
    go_wp2_with (go_at_call 5; refine (valive_any _).mono ?_; rintro e w1 ⟨rfl, hb1⟩)
    go_ret
    exact ⟨rfl, hb1⟩
  have hle : l.length ≤ 300 := by omega
  have hlL := length_varL m
  obtain ⟨L, hL⟩ : ∃ L, L = varL m := ⟨_, rfl⟩
  rw [← hL] at hlL
  have n1 : 0 + L.length ≤ maxLen := by unfold maxLen; omega
  have n2 : (0 + L.length) * 1 ≤ 140737488355328 := by omega
  have m1 : L.length + l.length ≤ maxLen := by unfold maxLen; omega
  have m2 : (L.length + l.length) * 1 ≤ 140737488355328 := by omega
  have hput := Lib.hid (show ∀ w1, Calls Try.prog 8 #[.slice none 0 0, .int .u64 m] w1 (GaveBytes L w1) by
    intro w1
    have h := vput_any none 0 0 [] m hm w1 ⟨.inl rfl, Nat.le_refl _, fun _ => rfl⟩ rfl (by decide)
    rw [List.nil_append, ← hL] at h
    exact h)
  have hget := Lib.hid (show ∀ w1 B d, Sl w1 B d (byts (L ++ l)) → Calls Try.prog 6 #[.slice B (L.length + l.length) d] w1 fun e w' => e = .returned (.tuple #[.int .u64 m, .int .i64 L.length]) ∧ Below w1.heap.size w1 w' by
    intro w1 B d h
    have h := vget_any B (L.length + l.length) d (L ++ l) w1 h List.length_append.symm (by rw [List.length_append]; omega)
    rw [hL, getL_varL m l hm, ← hL] at h
    exact h)
  have hcut := Lib.hid (show ∀ w1 B d k, k < L.length → Sl w1 B d (byts (L.take k)) → Calls Try.prog 6 #[.slice B k d] w1 fun e w' => e = .returned (.tuple #[.int .u64 0, .int .i64 0]) ∧ Below w1.heap.size w1 w' by
    intro w1 B d k hk h
    have h := vget_any B k d (L.take k) w1 h (by rw [List.length_take]; omega) (by rw [List.length_take]; omega)
    rw [hL, getL_cut m k hm (by rw [← hL]; exact hk)] at h
    exact h)
  have hsiz := Lib.hid (show ∀ w1, Calls Try.prog 10 #[.int .u64 m] w1 fun e w' => e = .returned (.int .i64 (L.length : Int)) ∧ Below w1.heap.size w1 w' by
    rw [hL]; exact fun w1 => vsize_any m hm w1)
  have hback := Lib.hid (getL_back l)
  obtain ⟨G, hG⟩ : ∃ G, G = getL l := ⟨_, rfl⟩
  have HG := Lib.hid hG
  obtain ⟨g1, g2⟩ := G
  have hgt := Lib.hid (show ∀ w1, Sl w1 A c (byts l) → Calls Try.prog 6 #[.slice A l.length c] w1 fun e w' => e = .returned (.tuple #[.int .u64 g1, .int .i64 g2]) ∧ Below w1.heap.size w1 w' by
    intro w1 h
    have h := vget_any A l.length c l w1 h rfl (by omega)
    rw [← hG] at h
    exact h)
  have HLl := Lib.hid (show l.length = (byts l).length from (length_byts l).symm)
  have HLL := Lib.hid (show L.length = (byts L).length from (length_byts L).symm)
  have hL10 : (L.length : Int) ≤ 10 := by omega
  clear hL hG h300 hlm hm
  go_enter Try.func4, Try.ntmps4
  go_wp2_with (first
    | (go_at_call 5; refine (valive_any _).mono ?_; rintro e w3 ⟨rfl, hb3⟩)
    | (go_at_call 8; refine (hput.out _).mono ?_; rintro e w4 ⟨v4, rfl, hown4, hb4⟩; obtain ⟨A4, c4, rfl, _, hsl4⟩ := Sl.of_own hown4; have hbw4 := hb3.trans (hb4.mono hb3.size); have hown4a : (w4.alloc (.cells #[] 5)).ownsRow w4.heap.size 5 1 (.slice (some ⟨w4.heap.size, 0, none⟩) 0 0) 0 [] := World.ownsRow_lit w4 #[] 0 (Nat.le_refl _) (by unfold maxLen; omega) rfl; have hb4a := (Below.refl w4.heap.size w4).alloc (Nat.le_refl _) (.cells #[] 5); clear hb4 hown4)
    | (at_builtin; refine wpList_append_sl rfl (.tmp 20) (.tmp 21) 22 rfl w4.heap.size 5 i0 _ 1 Try.underlying22 hi hz0 hz1 hz2 rfl _ 0 [] rfl hown4a A4 L.length c4 (byts L) rfl HLL.out (hsl4.later (Nat.le_refl _) hb4a) (byts_one _) n1 n2 hb4a.size ?_; intro v5 w5 hown5 hg5; have hb5 : Below w4.heap.size w4 w5 := hb4a.grown hg5 hb4a.size (fun k hk => (hown4a.lt k hk).1); rw [Nat.zero_add, List.nil_append] at hown5; clear hg5 hown4a hb4a)
    | (at_builtin; refine wpList_append_sl rfl (.tmp 22) (.tmp 23) 22 rfl w4.heap.size 5 i0 _ 1 Try.underlying22 hi hz0 hz1 hz2 rfl _ L.length (byts L) rfl hown5 A l.length c (byts l) rfl HLl.out (hs.later (Nat.le_refl _) (hbw4.trans (hb5.mono hbw4.size))) (byts_one _) m1 m2 hb5.size ?_; intro v6 w6 hown6 hg6; have hb6 : Below w4.heap.size w4 w6 := hb5.grown hg6 hb5.size (fun k hk => (hown5.lt k hk).1); rw [← byts_append] at hown6; obtain ⟨A6, c6, rfl, _, hsl6⟩ := Sl.of_own hown6; clear hg6 hown5 hown6 hb5)
    | (go_at_call 6; refine (hget.out _ _ _ hsl6).mono ?_; rintro e w7 ⟨rfl, hb7⟩; have hb47 := hb6.trans (hb7.mono hb6.size); clear hb7 hb6 hsl6)
    | (go_at_call 10; refine (hsiz.out _).mono ?_; rintro e w8 ⟨rfl, hb8⟩; have hb48 := hb47.trans (hb8.mono hb47.size); have hbw8 := hbw4.trans (hb48.mono hbw4.size); have hs8 := hs.later (Nat.le_refl _) hbw8; have hsl8 := hsl4.later (Nat.le_refl _) hb48; clear hb8 hb47))
  obtain ⟨b4, o4, rfl, _, _⟩ := hsl8.rd.get (i := 0) (by rw [length_byts]; omega)
  have hroom := hsl8.room
  rw [length_byts] at hroom
  have hr2 := Lib.hid hroom
  clear hroom hput hget hsiz
  go_loopw [49] (fun i wr => ∃ k : Nat, k ≤ L.length ∧ i = .int .i64 k ∧ Below w8.heap.size w8 wr) (fun i _ => L.length - (intOf i).toNat)
  case atStart => exact ⟨0, by omega, rfl, Below.refl _ _⟩
  case round =>
    obtain ⟨k, hk, rfl, hb⟩ := hrel
    by_cases hlt : k < L.length
    · have hkc : (k : Int) ≤ (c4 : Int) := by have := hr2.out; omega
      have hslk : Sl wr (some ⟨b4, o4, none⟩) c4 (byts (L.take k)) := by
        have h := (hsl8.later (Nat.le_refl _) hb).take (k := k)
        rwa [show (byts L).take k = byts (L.take k) by unfold byts; rw [List.map_take]] at h
      go_wp2_with (go_at_call 6; refine (hcut.out _ _ _ k hlt hslk).mono ?_; rintro e w9 ⟨rfl, hb9⟩; have hb89 := hb.trans (hb9.mono hb.size))
      go_roundw
      case rel => exact ⟨k + 1, by omega, by go_num, hb89⟩
      case measure => simp [intOf]; omega
    · obtain rfl : k = L.length := by omega
      have hs9 := hs8.later (Nat.le_refl _) hb
      have hbwr := hbw8.trans (hb.mono hbw8.size)
      clear hlt hk hsl4 hsl8 hcut
      go_wp2_with (go_at_call 6; refine (hgt.out _ hs9).mono ?_; rintro e w9 ⟨rfl, hb9⟩; have hbw9 := hbwr.trans (hb9.mono hbwr.size); have hs10 := hs9.later (Nat.le_refl _) hb9; clear hb9 hs9 hbwr)
      rcases hback.out with h0 | ⟨p1, p2, p3, p4, p5⟩
      · rw [← HG.out] at h0
        obtain ⟨rfl, rfl⟩ : g1 = 0 ∧ g2 = 0 := by cases h0; exact ⟨rfl, rfl⟩
        clear hs10 h0
        refine wp_region_noPanic ?_
        refine wp_region_held_drew (S := fun w' => Below w9.heap.size w9 w') (by kernel_rfl) ((Below.refl _ _).drew) (fun hHeld => ?_)
        have hB := hHeld
        refine rtake 0 _ (some 71) _ rfl rfl (by kernel_rfl) (by kernel_rfl) (by kernel_rfl) (fun _ _ _ h => h) (by rfl) hHeld (by intro w hS; go_simp; try with_reducible rfl) ?_
        try (first | (rw [put_some]; dsimp only [List.set]) | rw [put_none])
        refine rtake 1 _ (some 72) _ rfl rfl (by kernel_rfl) (by kernel_rfl) (by kernel_rfl) (fun _ _ _ h => h) (by rfl) hHeld (by intro w hS; go_simp; try with_reducible rfl) ?_
        try (first | (rw [put_some]; dsimp only [List.set]) | rw [put_none])
        refine rtake 2 _ (some 73) _ rfl rfl (by kernel_rfl) (by kernel_rfl) (by kernel_rfl) (fun _ _ _ h => h) (by rfl) hHeld (by intro w hS; go_simp; try with_reducible rfl) ?_
        try (first | (rw [put_some]; dsimp only [List.set]) | rw [put_none])
        refine rtake 3 _ (some 74) _ rfl rfl (by kernel_rfl) (by kernel_rfl) (by kernel_rfl) (fun _ _ _ h => h) (by rfl) hHeld (by intro w hS; go_simp; try with_reducible rfl) ?_
        try (first | (rw [put_some]; dsimp only [List.set]) | rw [put_none])
        refine rtake 4 _ (some 75) _ rfl rfl (by kernel_rfl) (by kernel_rfl) (by kernel_rfl) (fun _ _ _ h => h) (by rfl) hHeld (by intro w hS; go_simp; try with_reducible rfl) ?_
        try (first | (rw [put_some]; dsimp only [List.set]) | rw [put_none])
        refine rtake 5 _ (some 76) _ rfl rfl (by kernel_rfl) (by kernel_rfl) (by kernel_rfl) (fun _ _ _ h => h) (by rfl) hHeld (by intro w hS; go_simp; try with_reducible rfl) ?_
        try (first | (rw [put_some]; dsimp only [List.set]) | rw [put_none])
        refine rtake 6 _ (some 77) _ rfl rfl (by kernel_rfl) (by kernel_rfl) (by kernel_rfl) (fun _ _ _ h => h) (by rfl) hHeld (by intro w hS; go_simp; try with_reducible rfl) ?_
        try (first | (rw [put_some]; dsimp only [List.set]) | rw [put_none])
        refine rskip 7 _ (some 78) rfl rfl (by kernel_rfl) (by kernel_rfl) (by kernel_rfl) (fun _ _ _ h => h) (by rfl) hHeld ?_
        try (first | (rw [put_some]; dsimp only [List.set]) | rw [put_none])
        refine rskip 8 _ (some 79) rfl rfl (by kernel_rfl) (by kernel_rfl) (by kernel_rfl) (fun _ _ _ h => h) (by rfl) hHeld ?_
        try (first | (rw [put_some]; dsimp only [List.set]) | rw [put_none])
        refine rskip 9 _ (some 80) rfl rfl (by kernel_rfl) (by kernel_rfl) (by kernel_rfl) (fun _ _ _ h => h) (by rfl) hHeld ?_
        try (first | (rw [put_some]; dsimp only [List.set]) | rw [put_none])
        refine rskip 10 _ (some 81) rfl rfl (by kernel_rfl) (by kernel_rfl) (by kernel_rfl) (fun _ _ _ h => h) (by rfl) hHeld ?_
        try (first | (rw [put_some]; dsimp only [List.set]) | rw [put_none])
        refine rskip 11 _ (some 82) rfl rfl (by kernel_rfl) (by kernel_rfl) (by kernel_rfl) (fun _ _ _ h => h) (by rfl) hHeld ?_
        try (first | (rw [put_some]; dsimp only [List.set]) | rw [put_none])
        refine rskip 12 _ (some 83) rfl rfl (by kernel_rfl) (by kernel_rfl) (by kernel_rfl) (fun _ _ _ h => h) (by rfl) hHeld ?_
        try (first | (rw [put_some]; dsimp only [List.set]) | rw [put_none])
        refine rskip 13 _ (some 84) rfl rfl (by kernel_rfl) (by kernel_rfl) (by kernel_rfl) (fun _ _ _ h => h) (by rfl) hHeld ?_
        try (first | (rw [put_some]; dsimp only [List.set]) | rw [put_none])
        refine rskip 14 _ (some 85) rfl rfl (by kernel_rfl) (by kernel_rfl) (by kernel_rfl) (fun _ _ _ h => h) (by rfl) hHeld ?_
        try (first | (rw [put_some]; dsimp only [List.set]) | rw [put_none])
        refine rskip 15 _ (some 86) rfl rfl (by kernel_rfl) (by kernel_rfl) (by kernel_rfl) (fun _ _ _ h => h) (by rfl) hHeld ?_
        try (first | (rw [put_some]; dsimp only [List.set]) | rw [put_none])
        refine rskip 16 _ (some 87) rfl rfl (by kernel_rfl) (by kernel_rfl) (by kernel_rfl) (fun _ _ _ h => h) (by rfl) hHeld ?_
        try (first | (rw [put_some]; dsimp only [List.set]) | rw [put_none])
        refine rskip 17 _ (some 88) rfl rfl (by kernel_rfl) (by kernel_rfl) (by kernel_rfl) (fun _ _ _ h => h) (by rfl) hHeld ?_
        try (first | (rw [put_some]; dsimp only [List.set]) | rw [put_none])
        refine rskip 18 _ (some 89) rfl rfl (by kernel_rfl) (by kernel_rfl) (by kernel_rfl) (fun _ _ _ h => h) (by rfl) hHeld ?_
        try (first | (rw [put_some]; dsimp only [List.set]) | rw [put_none])
        refine rskip 19 _ (some 90) rfl rfl (by kernel_rfl) (by kernel_rfl) (by kernel_rfl) (fun _ _ _ h => h) (by rfl) hHeld ?_
        try (first | (rw [put_some]; dsimp only [List.set]) | rw [put_none])
        refine rskip 20 _ (some 91) rfl rfl (by kernel_rfl) (by kernel_rfl) (by kernel_rfl) (fun _ _ _ h => h) (by rfl) hHeld ?_
        try (first | (rw [put_some]; dsimp only [List.set]) | rw [put_none])
        refine rskip 21 _ (some 92) rfl rfl (by kernel_rfl) (by kernel_rfl) (by kernel_rfl) (fun _ _ _ h => h) (by rfl) hHeld ?_
        try (first | (rw [put_some]; dsimp only [List.set]) | rw [put_none])
        refine rskip 22 _ (some 93) rfl rfl (by kernel_rfl) (by kernel_rfl) (by kernel_rfl) (fun _ _ _ h => h) (by rfl) hHeld ?_
        try (first | (rw [put_some]; dsimp only [List.set]) | rw [put_none])
        refine rskip 23 _ (some 94) rfl rfl (by kernel_rfl) (by kernel_rfl) (by kernel_rfl) (fun _ _ _ h => h) (by rfl) hHeld ?_
        try (first | (rw [put_some]; dsimp only [List.set]) | rw [put_none])
        refine rskip 24 _ (some 95) rfl rfl (by kernel_rfl) (by kernel_rfl) (by kernel_rfl) (fun _ _ _ h => h) (by rfl) hHeld ?_
        try (first | (rw [put_some]; dsimp only [List.set]) | rw [put_none])
        refine rtake 25 _ (some 96) _ rfl rfl (by kernel_rfl) (by kernel_rfl) (by kernel_rfl) (fun _ _ _ h => h) (by rfl) hHeld (by intro w hS; go_simp; try with_reducible rfl) ?_
        try (first | (rw [put_some]; dsimp only [List.set]) | rw [put_none])
        refine rtake 26 _ (some 4) _ rfl rfl (by kernel_rfl) (by kernel_rfl) (by kernel_rfl) (fun _ _ _ h => h) (by rfl) hHeld (by intro w hS; go_simp; try with_reducible rfl) ?_
        try (first | (rw [put_some]; dsimp only [List.set]) | rw [put_none])
        refine wpAnyH_done (by kernel_rfl) ?_ _
        refine NoPanic.normal ?_
        have hBe := hbw9.trans (hB.mono hbw9.size)
        clear hHeld
        go_wp2
        go_ret
        exact ⟨rfl, hBe⟩
      · rw [← HG.out] at p1 p2 p3 p4 p5
        obtain ⟨T, hT⟩ : ∃ T, T = l.take g2 := ⟨_, rfl⟩
        have p1 : 0 < g2 := p1
        have p2 : g2 ≤ l.length := p2
        have p4 : g1 < 18446744073709551616 := p4
        have p5 : varL g1 = l.take g2 := p5
        have HTl := Lib.hid (show g2 = T.length by rw [hT, List.length_take]; omega)
        have hpu := Lib.hid (show ∀ w1, Calls Try.prog 8 #[.slice none 0 0, .int .u64 g1] w1 (GaveBytes T w1) by
          intro w1
          have h := vput_any none 0 0 [] g1 p4 w1 ⟨.inl rfl, Nat.le_refl _, fun _ => rfl⟩ rfl (by decide)
          rw [List.nil_append, p5, ← hT] at h
          exact h)
        have hslT : Sl w9 A c (byts T) := by
          have h := hs10.take (k := g2)
          rwa [show (byts l).take g2 = byts (l.take g2) by unfold byts; rw [List.map_take], ← hT] at h
        obtain ⟨b5, o5, rfl, _, _⟩ := hs10.rd.get (i := 0) (by rw [length_byts]; omega)
        have hroom2 := hs10.room
        rw [length_byts] at hroom2
        have q1 : (0 : Int) < (g2 : Int) := by omega
        have q2 : (g2 : Int) ≤ (l.length : Int) := by omega
        have q3 : (g2 : Int) ≤ (c : Int) := by omega
        have q4 : ¬ (g2 : Int) = 0 := by omega
        have q5 : ((g2 : Int) == 0) = false := by rw [beq_eq_false_iff_ne]; omega
        clear p1 p2 p3 p4 p5 hs10 hT hroom2
        refine wp_region_noPanic ?_
        refine wp_region_held_drew (S := fun w' => Below w9.heap.size w9 w') (by kernel_rfl) ((Below.refl _ _).drew) (fun hHeld => ?_)
        have hB := hHeld
        refine rtake 0 _ (some 71) _ rfl rfl (by kernel_rfl) (by kernel_rfl) (by kernel_rfl) (fun _ _ _ h => h) (by rfl) hHeld (by intro w hS; go_simp; try with_reducible rfl) ?_
        try (first | (rw [put_some]; dsimp only [List.set]) | rw [put_none])
        refine rtake 1 _ (some 72) _ rfl rfl (by kernel_rfl) (by kernel_rfl) (by kernel_rfl) (fun _ _ _ h => h) (by rfl) hHeld (by intro w hS; go_simp; try with_reducible rfl) ?_
        try (first | (rw [put_some]; dsimp only [List.set]) | rw [put_none])
        refine rtake 2 _ (some 73) _ rfl rfl (by kernel_rfl) (by kernel_rfl) (by kernel_rfl) (fun _ _ _ h => h) (by rfl) hHeld (by intro w hS; go_simp; try with_reducible rfl) ?_
        try (first | (rw [put_some]; dsimp only [List.set]) | rw [put_none])
        refine rskip 3 _ (some 74) rfl rfl (by kernel_rfl) (by kernel_rfl) (by kernel_rfl) (fun _ _ _ h => h) (by rfl) hHeld ?_
        try (first | (rw [put_some]; dsimp only [List.set]) | rw [put_none])
        refine rskip 4 _ (some 75) rfl rfl (by kernel_rfl) (by kernel_rfl) (by kernel_rfl) (fun _ _ _ h => h) (by rfl) hHeld ?_
        try (first | (rw [put_some]; dsimp only [List.set]) | rw [put_none])
        refine rtake 5 _ (some 76) _ rfl rfl (by kernel_rfl) (by kernel_rfl) (by kernel_rfl) (fun _ _ _ h => h) (by rfl) hHeld (by intro w hS; go_simp; try with_reducible rfl) ?_
        try (first | (rw [put_some]; dsimp only [List.set]) | rw [put_none])
        refine rtake 6 _ (some 77) _ rfl rfl (by kernel_rfl) (by kernel_rfl) (by kernel_rfl) (fun _ _ _ h => h) (by rfl) hHeld (by intro w hS; go_simp; try with_reducible rfl) ?_
        try (first | (rw [put_some]; dsimp only [List.set]) | rw [put_none])
        refine rtake 7 _ (some 78) _ rfl rfl (by kernel_rfl) (by kernel_rfl) (by kernel_rfl) (fun _ _ _ h => h) (by rfl) hHeld (by intro w hS; go_simp; try with_reducible rfl) ?_
        try (first | (rw [put_some]; dsimp only [List.set]) | rw [put_none])
        refine rtake 8 _ (some 79) _ rfl rfl (by kernel_rfl) (by kernel_rfl) (by kernel_rfl) (fun _ _ _ h => h) (by rfl) hHeld (by intro w hS; go_simp; try with_reducible rfl) ?_
        try (first | (rw [put_some]; dsimp only [List.set]) | rw [put_none])
        refine rtake 9 _ (some 80) _ rfl rfl (by kernel_rfl) (by kernel_rfl) (by kernel_rfl) (fun _ _ _ h => h) (by rfl) hHeld (by intro w hS; go_simp; try with_reducible rfl) ?_
        try (first | (rw [put_some]; dsimp only [List.set]) | rw [put_none])
        refine rtake 10 _ (some 81) _ rfl rfl (by kernel_rfl) (by kernel_rfl) (by kernel_rfl) (fun _ _ _ h => h) (by rfl) hHeld (by intro w hS; go_simp; try with_reducible rfl) ?_
        try (first | (rw [put_some]; dsimp only [List.set]) | rw [put_none])
        refine rtake 11 _ (some 82) _ rfl rfl (by kernel_rfl) (by kernel_rfl) (by kernel_rfl) (fun _ _ _ h => h) (by rfl) hHeld (by intro w hS; go_simp; try with_reducible rfl) ?_
        try (first | (rw [put_some]; dsimp only [List.set]) | rw [put_none])
        refine rtake 12 _ (some 83) _ rfl rfl (by kernel_rfl) (by kernel_rfl) (by kernel_rfl) (fun _ _ _ h => h) (by rfl) hHeld (by intro w hS; go_simp; try with_reducible rfl) ?_
        try (first | (rw [put_some]; dsimp only [List.set]) | rw [put_none])
        refine rtake 13 _ (some 84) _ rfl rfl (by kernel_rfl) (by kernel_rfl) (by kernel_rfl) (fun _ _ _ h => h) (by rfl) hHeld (by intro w hS; go_simp; try with_reducible rfl) ?_
        try (first | (rw [put_some]; dsimp only [List.set]) | rw [put_none])
        refine rtake 14 _ (some 85) _ rfl rfl (by kernel_rfl) (by kernel_rfl) (by kernel_rfl) (fun _ _ _ h => h) (by rfl) hHeld (by intro w hS; go_simp; try with_reducible rfl) ?_
        try (first | (rw [put_some]; dsimp only [List.set]) | rw [put_none])
        refine rtake 15 _ (some 86) _ rfl rfl (by kernel_rfl) (by kernel_rfl) (by kernel_rfl) (fun _ _ _ h => h) (by rfl) hHeld (by intro w hS; go_simp; try with_reducible rfl) ?_
        try (first | (rw [put_some]; dsimp only [List.set]) | rw [put_none])
        refine rtake 16 _ (some 87) _ rfl rfl (by kernel_rfl) (by kernel_rfl) (by kernel_rfl) (fun _ _ _ h => h) (by rfl) hHeld (by intro w hS; go_simp; try with_reducible rfl) ?_
        try (first | (rw [put_some]; dsimp only [List.set]) | rw [put_none])
        refine rtake 19 _ (some 90) _ rfl rfl (by kernel_rfl) (by kernel_rfl) (by kernel_rfl) (fun _ _ _ h => h) (by rfl) hHeld (by intro w hS; go_simp; try with_reducible rfl) ?_
        try (first | (rw [put_some]; dsimp only [List.set]) | rw [put_none])
        refine rtake 20 _ (some 91) _ rfl rfl (by kernel_rfl) (by kernel_rfl) (by kernel_rfl) (fun _ _ _ h => h) (by rfl) hHeld (by intro w hS; go_simp; try with_reducible rfl) ?_
        try (first | (rw [put_some]; dsimp only [List.set]) | rw [put_none])
        refine rtake 21 _ (some 92) _ rfl rfl (by kernel_rfl) (by kernel_rfl) (by kernel_rfl) (fun _ _ _ h => h) (by rfl) hHeld (by intro w hS; go_simp; try with_reducible rfl) ?_
        try (first | (rw [put_some]; dsimp only [List.set]) | rw [put_none])
        have hcvT := conv_later hslT g2 HTl.out
        refine rtake 22 _ (some 93) _ rfl rfl (by kernel_rfl) (by kernel_rfl) (by kernel_rfl) (fun _ _ _ h => h) (by rfl) hHeld (by intro w hS; go_simp; try with_reducible rfl) ?_
        try (first | (rw [put_some]; dsimp only [List.set]) | rw [put_none])
        refine wpAnyH_ready (rs := [17]) (by kernel_rfl) (by simp) (AllReadyH.cons (o := _) rfl (fun K hK => ?_) AllReadyH.nil)
        go_simp
        refine (hpu.out _).mono ?_; rintro e ww917 ⟨v17, rfl, hown17, hqw917⟩; obtain ⟨A17, c17, rfl, _, hsl17⟩ := Sl.of_own hown17; have hcv17 := conv_later hsl17 T.length rfl; clear hown17
        try go_wp2_with fail
        refine hK.out _ _ (hHeld.trans (hqw917.mono hHeld.size)) (fun hHeld' => ?_)
        clear hK K
        try (first | (rw [put_some]; dsimp only [List.set]) | rw [put_none])
        have hB := below_step hB hqw917
        have hB17 : Below ww917.heap.size ww917 ww917 := Below.refl _ _
        refine wpAnyH_narrow (S' := fun w' => Below ww917.heap.size ww917 w') (fun _ h => (hHeld.trans (hqw917.mono hHeld.size)).trans (h.mono (hHeld.trans (hqw917.mono hHeld.size)).size)) _ _ _ _ ?_
        clear hHeld
        have hHeld : Below ww917.heap.size ww917 ww917 := Below.refl _ _
        refine rtake 18 _ (some 89) _ rfl rfl (by kernel_rfl) (by kernel_rfl) (by kernel_rfl) (fun _ _ _ h => h) (by rfl) hHeld (by intro w hS; go_simp; try with_reducible rfl) ?_
        try (first | (rw [put_some]; dsimp only [List.set]) | rw [put_none])
        refine rtake 23 _ (some 94) _ rfl rfl (by kernel_rfl) (by kernel_rfl) (by kernel_rfl) (fun _ _ _ h => h) (by rfl) hHeld (by intro w hS; go_simp; try with_reducible rfl) ?_
        try (first | (rw [put_some]; dsimp only [List.set]) | rw [put_none])
        refine rtake 24 _ (some 95) _ rfl rfl (by kernel_rfl) (by kernel_rfl) (by kernel_rfl) (fun _ _ _ h => h) (by rfl) hHeld (by intro w hS; go_simp; try with_reducible rfl) ?_
        try (first | (rw [put_some]; dsimp only [List.set]) | rw [put_none])
        refine rtake 25 _ (some 96) _ rfl rfl (by kernel_rfl) (by kernel_rfl) (by kernel_rfl) (fun _ _ _ h => h) (by rfl) hHeld (by intro w hS; go_simp; try with_reducible rfl) ?_
        try (first | (rw [put_some]; dsimp only [List.set]) | rw [put_none])
        refine rtake 26 _ (some 4) _ rfl rfl (by kernel_rfl) (by kernel_rfl) (by kernel_rfl) (fun _ _ _ h => h) (by rfl) hHeld (by intro w hS; go_simp; try with_reducible rfl) ?_
        try (first | (rw [put_some]; dsimp only [List.set]) | rw [put_none])
        refine wpAnyH_done (by kernel_rfl) ?_ _
        refine NoPanic.normal ?_
        clear hcvT hcv17 hsl17
        have hBe := hbw9.trans (hB.mono hbw9.size)
        clear hHeld
        go_wp2
        go_ret
        exact ⟨rfl, hBe⟩
end Go.Proofs.Ytgdfahmhjjcpoaa
