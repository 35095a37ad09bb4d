/- LAYER 15: package cost: Text, AtMost. -/
import Derived.Test.YtimhhnhppnknhaaDoorZc
namespace Go.Proofs.YtimhhnhppnknhaaDoor
set_option maxRecDepth 100000
open Go Go.RowKit

set_option maxHeartbeats 4000000 in
theorem ctext_any (b : Nat) (hb : b < 2 ^ 64) (w : World) (hE : EnvC w) : Calls Tryd.prog 12 #[.float .f64 b] w fun e w' => e = .returned (.string (bstr (textC b))) ∧ Below w.heap.size w w' := by
  have hpt := cparts_any b hb w hE
  have hnan := fun w' => misnan_any b hb w'
  have hinf := fun w' => misinf_any b hb w'
  cases hn : nanC b with
  | true =>
    rw [hn] at hnan
    rw [parts_nan b hn] at hpt
    have HF := Lib.hid (fun w' (h : EnvC w') => fmt10_q 0 (by omega) w' h.pow)
    have HP := Lib.hid hpt
    have hnan := Lib.hid hnan
    have HW := Lib.hid (text_nan b hn)
    generalize numL 10 0 = X at *
    clear hn hpt hinf
    go_enter Tryd.func12, Tryd.ntmps12
    go_wp2_with (first
      | (go_at_call 8; refine HP.out.mono ?_; rintro e w1 ⟨rfl, hb1⟩; have hE1 := hE.next hb1)
      | (go_at_call 30; refine (HF.out _ hE1).mono ?_; rintro e w2 ⟨rfl, hb2⟩; have hb2 := hb1.trans (hb2.mono hb1.size); have hE2 := hE.next hb2)
      | (go_at_call 20; refine (hnan.out _).mono ?_; rintro e w' ⟨rfl, rfl⟩))
    go_ret
    exact ⟨by rw [HW.out]; rfl, hb2⟩
  | false =>
    rw [hn] at hnan
    have hnan := Lib.hid hnan
    by_cases h0 : magC b = 0
    · have HW := Lib.hid (show textC b = (if negC b then [45] else []) ++ [48] by rw [text_of b hn, h0]; rfl)
      rw [parts_edge b hn (.inr h0)] at hpt
      rw [decide_eq_false (by rw [h0]; omega)] at hinf
      have hinf := Lib.hid hinf
      have HF := Lib.hid (fun w' (h : EnvC w') => fmt10_q 0 (by omega) w' h.pow)
      rw [show numL 10 0 = [48] from numL_small 10 0 (by omega)] at HF
      have HP := Lib.hid hpt
      clear hpt hn h0
      cases hg : negC b
      all_goals
        rw [hg] at HP HW
        clear hg
        go_enter Tryd.func12, Tryd.ntmps12
        go_wp2_with (first
          | (go_at_call 8; refine HP.out.mono ?_; rintro e w1 ⟨rfl, hb1⟩; have hE1 := hE.next hb1)
          | (go_at_call 30; refine (HF.out _ hE1).mono ?_; rintro e w2 ⟨rfl, hb2⟩; have hb2 := hb1.trans (hb2.mono hb1.size); have hE2 := hE.next hb2)
          | (go_at_call 20; refine (hnan.out _).mono ?_; rintro e w' ⟨rfl, rfl⟩)
          | (go_at_call 22; refine (hinf.out _).mono ?_; rintro e w' ⟨rfl, rfl⟩))
        go_ret
        exact ⟨by rw [HW.out]; rfl, hb2⟩
    · by_cases hi : magC b = 2047 * 2 ^ 52
      · have HW := Lib.hid (show textC b = (if negC b then [45] else []) ++ [105, 110, 102] by rw [text_of b hn, hi]; rfl)
        rw [parts_edge b hn (.inl hi)] at hpt
        rw [decide_eq_true hi] at hinf
        have hinf := Lib.hid hinf
        have HF := Lib.hid (fun w' (h : EnvC w') => fmt10_q 0 (by omega) w' h.pow)
        generalize numL 10 0 = X at *
        have HP := Lib.hid hpt
        clear hpt hn h0 hi
        cases hg : negC b
        all_goals
          rw [hg] at HP HW
          clear hg
          go_enter Tryd.func12, Tryd.ntmps12
          go_wp2_with (first
            | (go_at_call 8; refine HP.out.mono ?_; rintro e w1 ⟨rfl, hb1⟩; have hE1 := hE.next hb1)
            | (go_at_call 30; refine (HF.out _ hE1).mono ?_; rintro e w2 ⟨rfl, hb2⟩; have hb2 := hb1.trans (hb2.mono hb1.size); have hE2 := hE.next hb2)
            | (go_at_call 20; refine (hnan.out _).mono ?_; rintro e w' ⟨rfl, rfl⟩)
            | (go_at_call 22; refine (hinf.out _).mono ?_; rintro e w' ⟨rfl, rfl⟩))
          go_ret
          exact ⟨by rw [HW.out]; rfl, hb2⟩
      · obtain ⟨b1, b2, b3, b4⟩ := fin_bounds b hn h0 hi
        have hT := show textC b = (if negC b then [45] else []) ++ (numL 10 (oddC (sigC (magC b))) ++ 112 :: intL (powC (magC b) + twosC (sigC (magC b)))) by rw [text_of b hn, body_fin _ h0 hi]
        rw [parts_fin b hn (by rintro (h | h); exact hi h; exact h0 h)] at hpt
        rw [decide_eq_false hi] at hinf
        have hinf := Lib.hid hinf
        generalize oddC (sigC (magC b)) = m at *
        generalize powC (magC b) + (twosC (sigC (magC b)) : Int) = P at *
        have HF := Lib.hid (fun w' (h : EnvC w') => fmt10_q m (by omega) w' h.pow)
        have HI := Lib.hid (fun w' (h : EnvC w') => itoa_any P (by omega) (by omega) w' h)
        have hX := numL_len 10 (by omega) 20 m (by omega)
        have hY : (intL P).length ≤ 22 := by
          have := numL_len 10 (by omega) 20 P.natAbs (by omega)
          unfold intL
          split
          · rw [List.length_cons]; omega
          · omega
        have hzX := size_bstr (numL 10 m)
        have hzY := size_bstr (intL P)
        have hm0 : ((m : Int) != 0) = true := by rw [bne_iff_ne]; omega
        have HP := Lib.hid hpt
        have HT := Lib.hid hT
        clear hpt hn h0 hi hT b1 b2 b3 b4
        generalize intL P = I at *
        generalize numL 10 m = X at *
        cases hg : negC b with
        | true =>
          rw [hg] at HP HT
          clear hg
          go_enter Tryd.func12, Tryd.ntmps12
          go_wp2_with (first
            | (go_at_call 8; refine HP.out.mono ?_; rintro e w1 ⟨rfl, hb1⟩; have hE1 := hE.next hb1)
            | (go_at_call 30; refine (HF.out _ hE1).mono ?_; rintro e w2 ⟨rfl, hb2⟩; have hb2 := hb1.trans (hb2.mono hb1.size); have hE2 := hE.next hb2)
            | (go_at_call 20; refine (hnan.out _).mono ?_; rintro e w' ⟨rfl, rfl⟩)
            | (go_at_call 22; refine (hinf.out _).mono ?_; rintro e w' ⟨rfl, rfl⟩)
            | (go_at_call 31; refine (HI.out _ hE2).mono ?_; rintro e w3 ⟨rfl, hb3⟩; have hb3 := hb2.trans (hb3.mono hb2.size)))
          go_ret
          exact ⟨by rw [HT.out]; show Ending.returned (.string (bstr [45] ++ (bstr X ++ (bstr [112] ++ bstr I)))) = _; rw [bstr_cat12, bstr_cat12, bstr_cat12]; rfl, hb3⟩
        | false =>
          rw [hg] at HP HT
          clear hg
          go_enter Tryd.func12, Tryd.ntmps12
          go_wp2_with (first
            | (go_at_call 8; refine HP.out.mono ?_; rintro e w1 ⟨rfl, hb1⟩; have hE1 := hE.next hb1)
            | (go_at_call 30; refine (HF.out _ hE1).mono ?_; rintro e w2 ⟨rfl, hb2⟩; have hb2 := hb1.trans (hb2.mono hb1.size); have hE2 := hE.next hb2)
            | (go_at_call 20; refine (hnan.out _).mono ?_; rintro e w' ⟨rfl, rfl⟩)
            | (go_at_call 22; refine (hinf.out _).mono ?_; rintro e w' ⟨rfl, rfl⟩)
            | (go_at_call 31; refine (HI.out _ hE2).mono ?_; rintro e w3 ⟨rfl, hb3⟩; have hb3 := hb2.trans (hb3.mono hb2.size)))
          go_ret
          exact ⟨by rw [HT.out]; show Ending.returned (.string (bstr X ++ (bstr [112] ++ bstr I))) = _; rw [bstr_cat12, bstr_cat12]; rfl, hb3⟩
theorem catmost_any (a b : Nat) (ha : a < 2 ^ 64) (hb : b < 2 ^ 64) (w : World) (_ : EnvC w) : Calls Tryd.prog 15 #[.float .f64 a, .float .f64 b] w fun e w' => e = .returned (.bool (atMostC a b)) ∧ Below w.heap.size w w' := by
  have ho := order_of a b ha hb
  have e : (FloatKind.f64.format.order a b == some .lt || FloatKind.f64.format.order a b == some .eq) = atMostC a b := by
    rw [ho]
    unfold atMostC
    cases nanC a with
    | true => rw [if_pos (.inl rfl)]; rfl
    | false =>
      cases nanC b with
      | true => rw [if_pos (.inr rfl)]; rfl
      | false =>
        rw [if_neg (by simp)]
        rcases Int.lt_trichotomy (rankC a) (rankC b) with h | h | h
        · rw [cmp_lt h, decide_eq_true (by omega)]; rfl
        · rw [h, compare_self, decide_eq_true (by omega)]; rfl
        · rw [cmp_gt h, decide_eq_false (by omega)]; rfl
  have HE := Lib.hid e
  clear ho e
  go_enter Tryd.func15, Tryd.ntmps15
  go_wp2
  go_ret
  exact ⟨by rw [← HE.out]; rfl, Below.refl _ _⟩
end Go.Proofs.YtimhhnhppnknhaaDoor
