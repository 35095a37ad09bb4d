/- LAYER 15: the document's Text. -/
import Derived.Test.YtimhhnhppnknhaaDoorFc
namespace Go.Proofs.YtimhhnhppnknhaaDoor
set_option maxRecDepth 100000
open Go Go.RowKit

theorem rank_zero (b : Nat) (h : magC b = 0) : rankC b = 0 := by
  unfold rankC; rw [h]; cases negC b <;> rfl
theorem rank_pos (b : Nat) (h : magC b ≠ 0) : rankC b ≠ 0 := by
  unfold rankC; cases negC b <;> simp <;> omega
theorem nan_zero : nanC 0 = false := by decide
theorem order_zero (b : Nat) (hb : b < 2 ^ 64) (hn : nanC b = false) (h : magC b = 0) : FloatKind.f64.format.order b 0 = some .eq := by
  rw [order_of b 0 hb (by omega), if_neg (by rw [hn, nan_zero]; simp), rank_zero b h, rank_zero 0 (by decide), compare_self]
theorem order_other (b : Nat) (hb : b < 2 ^ 64) (hn : nanC b = false) (h : magC b ≠ 0) : (FloatKind.f64.format.order b 0 = some .lt ∨ FloatKind.f64.format.order b 0 = some .gt) := by
  rw [order_of b 0 hb (by omega), if_neg (by rw [hn, nan_zero]; simp), rank_zero 0 (by decide)]
  have h0 := rank_pos b h
  rcases Int.lt_trichotomy (rankC b) 0 with h1 | h1 | h1
  · exact .inl (by rw [cmp_lt h1])
  · exact absurd h1 h0
  · exact .inr (by rw [cmp_gt h1])
theorem text_nan (b : Nat) (h : nanC b = true) : textC b = [] := by unfold textC; rw [if_pos h]
theorem text_of (b : Nat) (h : nanC b = false) : textC b = (if negC b then [45] else []) ++ bodyC (magC b) := by unfold textC; rw [if_neg (by rw [h]; simp)]
theorem body_fin (a : Nat) (h0 : a ≠ 0) (h1 : a ≠ 2047 * 2 ^ 52) : bodyC a = numL 10 (oddC (sigC a)) ++ 112 :: intL (powC a + twosC (sigC a)) := by unfold bodyC; rw [if_neg h0, if_neg h1]
theorem fin_bounds (b : Nat) (hn : nanC b = false) (h0 : magC b ≠ 0) (h1 : magC b ≠ 2047 * 2 ^ 52) : 0 < oddC (sigC (magC b)) ∧ oddC (sigC (magC b)) < 2 ^ 53 ∧ -1074 ≤ powC (magC b) + twosC (sigC (magC b)) ∧ powC (magC b) + twosC (sigC (magC b)) ≤ 1100 := by
  have hle : magC b < 2047 * 2 ^ 52 := by
    unfold nanC at hn
    have := of_decide_eq_false hn
    omega
  have hf : FinC (magC b) := ⟨by omega, hle⟩
  have hs := sig_pos _ hf
  obtain ⟨g1, -⟩ := fit_of _ hf
  obtain ⟨o1, o2⟩ := odd_twos (sigC (magC b)) (by omega)
  have hsl : sigC (magC b) < 2 ^ 53 := by rcases g1 with ⟨_, h, _⟩ | ⟨_, h, _, _⟩ <;> omega
  have hpow : -1074 ≤ powC (magC b) ∧ powC (magC b) ≤ 971 := by rcases g1 with ⟨_, _, h⟩ | ⟨_, _, h, h'⟩ <;> omega
  have ht := twos_le (sigC (magC b)) 53 hs hsl
  have hle2 : oddC (sigC (magC b)) ≤ oddC (sigC (magC b)) * 2 ^ twosC (sigC (magC b)) := Nat.le_mul_of_pos_right _ (Nat.pow_pos (by omega))
  rw [← o2] at hle2
  refine ⟨by omega, by omega, by omega, by omega⟩
set_option maxHeartbeats 4000000 in
theorem ftext_any (b : Nat) (hb : b < 2 ^ 64) (w : World) : Calls Tryd.prog 13 #[.float .f64 b] w fun e w' => e = .returned (.string (bstr (textC b))) ∧ Below w.heap.size w w' := by
  have hpt := fparts_any b hb w
  have tok : True := trivial
  cases hn : nanC b with
  | true =>
    have o1 := order_nan b hb hn
    have HW := Lib.hid (text_nan b hn)
    clear hn hpt
    go_enter Tryd.func13, Tryd.ntmps13
    go_wp2
    go_ret
    exact ⟨by rw [HW.out]; rfl, Below.refl _ _⟩
  | false =>
    have o1 := order_eq b hb hn
    by_cases h0 : magC b = 0
    · have o2 := order_zero b hb hn h0
      have HW := Lib.hid (show textC b = (if negC b then [45] else []) ++ [48] by rw [text_of b hn, h0]; rfl)
      rw [parts_edge b hn (.inr h0)] at hpt
      have HP := Lib.hid hpt
      clear hpt hn h0
      cases hg : negC b with
      | true =>
        rw [hg] at HP HW
        go_enter Tryd.func13, Tryd.ntmps13
        go_wp2_with (go_at_call 9; refine HP.out.mono ?_; rintro e w0 ⟨rfl, rfl⟩)
        go_ret
        exact ⟨by rw [HW.out]; rfl, Below.refl _ _⟩
      | false =>
        rw [hg] at HP HW
        go_enter Tryd.func13, Tryd.ntmps13
        go_wp2_with (go_at_call 9; refine HP.out.mono ?_; rintro e w0 ⟨rfl, rfl⟩)
        go_ret
        exact ⟨by rw [HW.out]; rfl, Below.refl _ _⟩
    · have o2 := order_other b hb hn h0
      by_cases hi : magC b = 2047 * 2 ^ 52
      · have HW := Lib.hid (show textC b = (if negC b then [45] else []) ++ [105, 110, 102] by rw [text_of b hn, hi]; rfl)
        rw [parts_edge b hn (.inl hi)] at hpt
        have HP := Lib.hid hpt
        clear hpt hn h0 hi
        rcases o2 with o2 | o2
        all_goals cases hg : negC b
        all_goals rw [hg] at HP HW
        all_goals clear hg
        · go_enter Tryd.func13, Tryd.ntmps13
          go_wp2_with (go_at_call 9; refine HP.out.mono ?_; rintro e w0 ⟨rfl, rfl⟩)
          go_ret
          exact ⟨by rw [HW.out]; rfl, Below.refl _ _⟩
        · go_enter Tryd.func13, Tryd.ntmps13
          go_wp2_with (go_at_call 9; refine HP.out.mono ?_; rintro e w0 ⟨rfl, rfl⟩)
          go_ret
          exact ⟨by rw [HW.out]; rfl, Below.refl _ _⟩
        · go_enter Tryd.func13, Tryd.ntmps13
          go_wp2_with (go_at_call 9; refine HP.out.mono ?_; rintro e w0 ⟨rfl, rfl⟩)
          go_ret
          exact ⟨by rw [HW.out]; rfl, Below.refl _ _⟩
        · go_enter Tryd.func13, Tryd.ntmps13
          go_wp2_with (go_at_call 9; refine HP.out.mono ?_; rintro e w0 ⟨rfl, rfl⟩)
          go_ret
          exact ⟨by rw [HW.out]; rfl, Below.refl _ _⟩
      · obtain ⟨b1, b2, b3, b4⟩ := fin_bounds b hn h0 hi
        have hT := show textC b = (if negC b then [45] else []) ++ (numL 10 (oddC (sigC (magC b))) ++ 112 :: intL (powC (magC b) + twosC (sigC (magC b)))) by rw [text_of b hn, body_fin _ h0 hi]
        rw [parts_fin b hn (by rintro (h | h); exact hi h; exact h0 h)] at hpt
        generalize oddC (sigC (magC b)) = m at *
        generalize powC (magC b) + (twosC (sigC (magC b)) : Int) = P at *
        obtain ⟨k, hk⟩ : ∃ k, k = P.natAbs := ⟨_, rfl⟩
        have hn1 := Lib.hid (fun w' => fnum_any m m w' (Nat.le_refl _) (by omega))
        have hn2 := Lib.hid (fun w' => fnum_any k k w' (Nat.le_refl _) (by omega))
        have hX := numL_len 10 (by omega) 20 m (by omega)
        have hY := numL_len 10 (by omega) 20 k (by omega)
        have hzX := size_bstr (numL 10 m)
        have hzY := size_bstr (numL 10 k)
        have hm0 : ((m : Int) == 0) = false := by rw [beq_eq_false_iff_ne]; omega
        have HP := Lib.hid hpt
        have HI := Lib.hid (show intL P = if P < 0 then 45 :: numL 10 k else numL 10 k by rw [hk]; rfl)
        have HT := Lib.hid hT
        clear hpt hn h0 hi hT b1 b2
        generalize intL P = I at *
        generalize numL 10 m = X at *
        generalize numL 10 k = Y at *
        clear o2
        by_cases hp : P < 0
        · have hw1 : IntKind.i64.wrap (-P) = (k : Int) := by rw [IntKind.wrap_i64]; omega
          have hw2 : IntKind.u64.wrap (k : Int) = (k : Int) := by rw [IntKind.wrap_u64]; omega
          have HJ := Lib.hid (HI.out.trans (if_pos hp))
          clear HI hk
          cases hg : negC b with
          | true =>
            rw [hg] at HP HT
            go_enter Tryd.func13, Tryd.ntmps13
            go_wp2_with (first
              | (go_at_call 9; refine HP.out.mono ?_; rintro e w0 ⟨rfl, rfl⟩)
              | (go_at_call 32; have _t := tok; refine (hn1.out _).mono ?_; rintro e w1 ⟨rfl, hb1⟩; clear tok)
              | (go_at_call 32; refine (hn2.out _).mono ?_; rintro e w2 ⟨rfl, hb2⟩))
            go_ret
            exact ⟨by rw [HT.out, HJ.out]; show Ending.returned (.string (((bstr [45] ++ bstr X) ++ bstr [112, 45]) ++ bstr Y)) = _; rw [bstr_cat12, bstr_cat12, bstr_cat12]; simp, hb1.trans (hb2.mono hb1.size)⟩
          | false =>
            rw [hg] at HP HT
            go_enter Tryd.func13, Tryd.ntmps13
            go_wp2_with (first
              | (go_at_call 9; refine HP.out.mono ?_; rintro e w0 ⟨rfl, rfl⟩)
              | (go_at_call 32; have _t := tok; refine (hn1.out _).mono ?_; rintro e w1 ⟨rfl, hb1⟩; clear tok)
              | (go_at_call 32; refine (hn2.out _).mono ?_; rintro e w2 ⟨rfl, hb2⟩))
            go_ret
            exact ⟨by rw [HT.out, HJ.out]; show Ending.returned (.string (((bstr [] ++ bstr X) ++ bstr [112, 45]) ++ bstr Y)) = _; rw [bstr_cat12, bstr_cat12, bstr_cat12]; simp, hb1.trans (hb2.mono hb1.size)⟩
        · have hp' : (0 : Int) ≤ P := by omega
          have hw2 : IntKind.u64.wrap P = (k : Int) := by rw [IntKind.wrap_u64]; omega
          have HJ := Lib.hid (HI.out.trans (if_neg hp))
          clear HI hk hp
          cases hg : negC b with
          | true =>
            rw [hg] at HP HT
            go_enter Tryd.func13, Tryd.ntmps13
            go_wp2_with (first
              | (go_at_call 9; refine HP.out.mono ?_; rintro e w0 ⟨rfl, rfl⟩)
              | (go_at_call 32; have _t := tok; refine (hn1.out _).mono ?_; rintro e w1 ⟨rfl, hb1⟩; clear tok)
              | (go_at_call 32; refine (hn2.out _).mono ?_; rintro e w2 ⟨rfl, hb2⟩))
            go_ret
            exact ⟨by rw [HT.out, HJ.out]; show Ending.returned (.string (((bstr [45] ++ bstr X) ++ bstr [112]) ++ bstr Y)) = _; rw [bstr_cat12, bstr_cat12, bstr_cat12]; simp, hb1.trans (hb2.mono hb1.size)⟩
          | false =>
            rw [hg] at HP HT
            go_enter Tryd.func13, Tryd.ntmps13
            go_wp2_with (first
              | (go_at_call 9; refine HP.out.mono ?_; rintro e w0 ⟨rfl, rfl⟩)
              | (go_at_call 32; have _t := tok; refine (hn1.out _).mono ?_; rintro e w1 ⟨rfl, hb1⟩; clear tok)
              | (go_at_call 32; refine (hn2.out _).mono ?_; rintro e w2 ⟨rfl, hb2⟩))
            go_ret
            exact ⟨by rw [HT.out, HJ.out]; show Ending.returned (.string (((bstr [] ++ bstr X) ++ bstr [112]) ++ bstr Y)) = _; rw [bstr_cat12, bstr_cat12, bstr_cat12]; simp, hb1.trans (hb2.mono hb1.size)⟩
end Go.Proofs.YtimhhnhppnknhaaDoor
