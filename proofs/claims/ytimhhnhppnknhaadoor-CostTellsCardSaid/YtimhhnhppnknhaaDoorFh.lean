/- LAYER 15: the document's Parse. -/
import Derived.Test.YtimhhnhppnknhaaDoorFg
namespace Go.Proofs.YtimhhnhppnknhaaDoor
set_option maxRecDepth 100000
open Go Go.RowKit

set_option maxHeartbeats 64000000 in
theorem fparse_any (s : List UInt8) (hs : s.length ≤ 1000) (w : World) : Calls Tryd.prog 11 #[.string (bstr s)] w fun e w' => e = .returned (.tuple #[.float .f64 ((parseC s).getD 0), .bool (parseC s).isSome]) ∧ Below w.heap.size w w' := by
  have hz := size_bstr s
  have hc0 := Lib.hid (fun w' => fmzero_any w')
  have hi0 := Lib.hid (fun w' => finf_any w')
  have hi1 := Lib.hid (fun w' => fminf_any w')
  have htx := Lib.hid (fun j h w' => ftext_any (fourC.getD j 0) (four_ok j h).1 w')
  obtain ⟨V, hV⟩ : ∃ V, V = parseC s := ⟨_, rfl⟩
  have HF := Lib.hid (fun j h e => hV.trans (parse_four s j h e))
  have HS := Lib.hid (fun h4 h => hV.trans (parse_pos s h4 h))
  have HN := Lib.hid (fun r e h4 => hV.trans (parse_neg' s r e h4))
  rw [← hV]
  clear hV
  have tok : True := trivial
  obtain ⟨w1, hw1⟩ : ∃ w1, w1 = w.alloc (.cells #[.float .f64 0, .float .f64 9223372036854775808, .float .f64 9218868437227405312, .float .f64 18442240474082181120] 24) := ⟨_, rfl⟩
  have hr1 : Row w1 w.heap.size 24 [.float .f64 0, .float .f64 9223372036854775808, .float .f64 9218868437227405312, .float .f64 18442240474082181120] := by rw [hw1]; exact Row.new w _ _
  have hb1 : Below w.heap.size w w1 := by rw [hw1]; exact (Below.refl _ w).alloc (Nat.le_refl _) _
  have HW1 := Lib.hid hw1
  clear hw1
  go_enter Tryd.func11, Tryd.ntmps11
  go_wp2_with (first
    | (go_at_call 19; refine (hc0.out _).mono ?_; rintro e w' ⟨rfl, rfl⟩)
    | (go_at_call 18; have _t := tok; refine (hi0.out _).mono ?_; rintro e w' ⟨rfl, rfl⟩; clear tok)
    | (go_at_call 18; refine (hi1.out _).mono ?_; rintro e w' ⟨rfl, rfl⟩))
  rw [← HW1.out]
  clear HW1 hc0 hi0 hi1
  go_loopw [22] (fun i wr => ∃ k : Nat, k ≤ 4 ∧ i = .int .i64 k ∧ (∀ j, j < k → s ≠ textC (fourC.getD j 0)) ∧ Below w1.heap.size w1 wr) (fun i _ => 4 - (intOf i).toNat)
  case atStart => exact ⟨0, by omega, rfl, fun j h => by omega, Below.refl _ _⟩
  case round =>
    obtain ⟨k, hk, rfl, hno, hbr⟩ := hrel
    by_cases hlt : k < 4
    · have hlt' : (k : Int) < 4 := by omega
      have hix := index_floats w.heap.size 4 4 k hlt
      have hce := four_cell (hr1.later hbr hr1.lt) k hlt
      have htk := Lib.hid (htx.out k hlt wr)
      have he := bstr_beq s (textC (fourC.getD k 0))
      by_cases heq : s = textC (fourC.getD k 0)
      · have HX := Lib.hid (HF.out k hlt heq)
        rw [decide_eq_true heq] at he
        clear hno heq
        generalize textC (fourC.getD k 0) = T at *
        generalize fourC.getD k 0 = q at *
        go_wp2_with (go_at_call 13; refine htk.out.mono ?_; rintro e w2 ⟨rfl, hb2⟩)
        go_ret2
        exact ⟨by rw [HX.out]; rfl, (hb1.trans (hbr.mono hb1.size)).trans (hb2.mono (Nat.le_trans hb1.size hbr.size))⟩
      · have HNO := Lib.hid (show ∀ j, j < k + 1 → s ≠ textC (fourC.getD j 0) from fun j hj => by
          rcases Nat.lt_or_eq_of_le (Nat.le_of_lt_succ hj) with h | h
          · exact hno j h
          · rw [h]; exact heq)
        rw [decide_eq_false heq] at he
        clear hno heq
        generalize textC (fourC.getD k 0) = T at *
        generalize fourC.getD k 0 = q at *
        go_wp2_with (go_at_call 13; refine htk.out.mono ?_; rintro e w2 ⟨rfl, hb2⟩)
        go_roundw
        case rel => exact ⟨k + 1, by omega, by go_num, HNO.out, hbr.trans (hb2.mono hbr.size)⟩
        case measure => simp [intOf]; omega
    · obtain rfl : k = 4 := by omega
      have hBw : Below w.heap.size w wr := hb1.trans (hbr.mono hb1.size)
      clear hbr hr1 hb1 htx HF
      by_cases hsg : s.getD 0 0 = 45
      · obtain ⟨R, hR⟩ : ∃ R, s = 45 :: R := by
          cases s with
          | nil => exact absurd hsg (by decide)
          | cons c r => exact ⟨r, by rw [show c = 45 from hsg]⟩
        have HMg := Lib.hid (HN.out R hR hno)
        have hsl : s.length = R.length + 1 := by rw [hR]; rfl
        have hlp : (0 : Int) < (s.length : Int) := by omega
        have hix : ∀ w', (Instr.index 9 (.string (bstr s)) (.int .i64 0)).run Tryd.prog w' = .ok (.int .u8 45) w' := by
          have h := fun w' => index_bstr s 0 (by omega) w'
          rw [hsg] at h; exact h
        have hex : (bstr s).extract 1 s.length = bstr R := by rw [hR]; exact tail_bstr' 45 R _ rfl
        have hzR := size_bstr R
        have hRl : R.length ≤ 1000 := by omega
        have hsl1 : (1 : Int) ≤ (s.length : Int) := by omega
        clear hno HS HN hsg hR hsl hs
        generalize bstr s = P at *
        generalize s.length = sl at *
        go_wp2
        go_loop [8] (fun i => ∃ k : Nat, k ≤ R.length ∧ i = .int .i64 k ∧ ∀ j, j < k → R.getD j 0 ≠ 112) (fun i => R.length - (intOf i).toNat)
        case atStart => exact ⟨0, by omega, rfl, fun j h => by omega⟩
        case round =>
          obtain ⟨k, hk, rfl, hno⟩ := hrel
          by_cases hlt : k < R.length
          · have hlt' : (k : Int) < (R.length : Int) := by omega
            have hix := index_bstr R k hlt
            by_cases hc : R.getD k 0 = 112
            · have hix2 : ∀ w', (Instr.index 9 (.string (bstr R)) (.int .i64 k)).run Tryd.prog w' = .ok (.int .u8 112) w' := by rw [hc] at hix; exact hix
              have HC := Lib.hid (cutP_hit R k hlt hc hno)
              have hwk : IntKind.i64.wrap ((k : Int) + 1) = (k : Int) + 1 := by rw [IntKind.wrap_i64]; omega
              have hk1 : (k : Int) + 1 ≤ (R.length : Int) := by omega
              have hk0 : (k : Int) ≤ (R.length : Int) := by omega
              have hx1 : (bstr R).extract (k + 1) R.length = bstr (R.drop (k + 1)) := by rw [extract_bstr12, List.take_of_length_le (by rw [List.length_drop]; omega)]
              have hx2 : (bstr R).extract 0 k = bstr (R.take k) := by rw [extract_bstr12, List.drop_zero]; rfl
              have ht : (R.take k).length ≤ 1000 := by rw [List.length_take]; omega
              have hU : (R.drop (k + 1)).length ≤ 1000 := by rw [List.length_drop]; omega
              have hzu := size_bstr (R.drop (k + 1))
              generalize R.take k = t at *
              generalize R.drop (k + 1) = u at *
              clear hix hc hno
              by_cases ua : u.length ≤ 1
              · obtain ⟨O1, hO1⟩ : ∃ O1, O1 = valueL 10 16 t := ⟨_, rfl⟩
                obtain ⟨O2, hO2⟩ : ∃ O2, O2 = valueL 10 4 u := ⟨_, rfl⟩
                have ua1 : decide ((1 : Int) < (u.length : Int)) = false := decide_eq_false (by omega)
                have HJ := Lib.hid (show V = Option.map (fun x => 2 ^ 63 + x) (joinC O1 O2 (fun n => (n : Int))) by rw [HMg.out, join_keep R t u HC.out (.inr (.inl ua)), ← hO1, ← hO2])
                clear ua HC HMg
                have hd1 : ∀ w', Calls Tryd.prog 28 #[.string (bstr t), .int .i64 16] w' fun e w'' => ∃ n : Nat, e = .returned (.tuple #[.int .u64 (n : Int), .bool O1.isSome]) ∧ n < 10 ^ 16 ∧ (∀ v, O1 = some v → n = v) ∧ Below w'.heap.size w' w'' := by
                  intro w'; rw [hO1]; exact fdigits_any t ht 16 (by omega) w'
                have hd2 : ∀ w', Calls Tryd.prog 28 #[.string (bstr u), .int .i64 4] w' fun e w'' => ∃ n : Nat, e = .returned (.tuple #[.int .u64 (n : Int), .bool O2.isSome]) ∧ n < 10 ^ 4 ∧ (∀ v, O2 = some v → n = v) ∧ Below w'.heap.size w' w'' := by
                  intro w'; rw [hO2]; exact fdigits_any u hU 4 (by omega) w'
                have Hd1 := Lib.hid hd1
                have Hd2 := Lib.hid hd2
                have tokd : True := trivial
                clear hd1 hd2 hO1 hO2 ht hU
                go_wp2_with (first
                  | (go_at_call 28; have _t := tokd; refine (Hd1.out _).mono ?_; rintro e w3 ⟨n1, rfl, hn1, hv1, hb3⟩; clear tokd)
                  | (go_at_call 28; refine (Hd2.out _).mono ?_; rintro e w4 ⟨n2, rfl, hn2, hv2, hb4⟩; refine Hid.out ?_))
                refine Lib.hid ?_
                have hB4 : Below w.heap.size w w4 := (hBw.trans (hb3.mono hBw.size)).trans (hb4.mono (Nat.le_trans hBw.size hb3.size))
                have hw1 : IntKind.i64.wrap (n2 : Int) = (n2 : Int) := by rw [IntKind.wrap_i64]; omega
                have hw2 : IntKind.i64.wrap (-(n2 : Int)) = -(n2 : Int) := by rw [IntKind.wrap_i64]; omega
                have hof := Lib.hid (fof_any n1 ((n2 : Int)) (by omega) (by omega) (by omega) w4)
                clear Hd1 Hd2 hn1 hn2
                cases O1 with
                | none =>
                  have HX := Lib.hid (show V = none by rw [HJ.out, join_none1]; rfl)
                  clear HJ hv1 hv2
                  go_wp2_with (go_at_call 29; refine hof.out.mono ?_; rintro e w' ⟨rfl, rfl⟩)
                  go_ret2
                  exact ⟨by rw [HX.out]; rfl, hB4⟩
                | some m =>
                  obtain rfl := hv1 m rfl
                  cases O2 with
                  | none =>
                    have HX := Lib.hid (show V = none by rw [HJ.out, join_none2]; rfl)
                    clear HJ hv1 hv2
                    go_wp2_with (go_at_call 29; refine hof.out.mono ?_; rintro e w' ⟨rfl, rfl⟩)
                    go_ret2
                    exact ⟨by rw [HX.out]; rfl, hB4⟩
                  | some n =>
                    obtain rfl := hv2 n rfl
                    cases h3 : ofC n1 ((n2 : Int)) with
                    | none =>
                      have HX := Lib.hid (show V = none by rw [HJ.out]; show Option.map (fun x => 2 ^ 63 + x) (ofC n1 ((n2 : Int))) = none; rw [h3]; rfl)
                      rw [h3] at hof
                      clear HJ hv1 hv2 h3
                      go_wp2_with (go_at_call 29; refine hof.out.mono ?_; rintro e w' ⟨rfl, rfl⟩)
                      go_ret2
                      exact ⟨by rw [HX.out]; rfl, hB4⟩
                    | some a =>
                      have HX := Lib.hid (show V = some (2 ^ 63 + a) by rw [HJ.out]; show Option.map (fun x => 2 ^ 63 + x) (ofC n1 ((n2 : Int))) = _; rw [h3]; rfl)
                      have hfin := ofC_fin _ _ _ h3
                      have hmul := fun w' => run_float_arith (P := Tryd.prog) w' .mul 24 .f64 13830554455654793216 a (2 ^ 63 + a) (mul_minus_bits a hfin)
                      rw [h3] at hof
                      clear HJ hv1 hv2 h3
                      go_wp2_with (go_at_call 29; refine hof.out.mono ?_; rintro e w' ⟨rfl, rfl⟩)
                      go_ret2
                      exact ⟨by rw [HX.out]; rfl, hB4⟩
              · have ua1 : (1 : Int) < (u.length : Int) := by omega
                have hux : ∀ w', (Instr.index 9 (.string (bstr u)) (.int .i64 0)).run Tryd.prog w' = .ok (.int .u8 ((u.getD 0 0).toNat : Int)) w' := fun w' => index_bstr u 0 (by omega) w'
                by_cases ub : u.getD 0 0 = 45
                · rw [ub] at hux
                  have hux : ∀ w', (Instr.index 9 (.string (bstr u)) (.int .i64 0)).run Tryd.prog w' = .ok (.int .u8 45) w' := hux
                  have e48 := bstr_is u [45, 48]
                  by_cases uc : u = [45, 48]
                  · obtain ⟨O1, hO1⟩ : ∃ O1, O1 = valueL 10 16 t := ⟨_, rfl⟩
                    obtain ⟨O2, hO2⟩ : ∃ O2, O2 = valueL 10 4 u := ⟨_, rfl⟩
                    rw [decide_eq_true uc] at e48
                    have HJ := Lib.hid (show V = Option.map (fun x => 2 ^ 63 + x) (joinC O1 O2 (fun n => (n : Int))) by rw [HMg.out, join_keep R t u HC.out (.inr (.inr uc)), ← hO1, ← hO2])
                    clear ua ub uc HC HMg
                    have hd1 : ∀ w', Calls Tryd.prog 28 #[.string (bstr t), .int .i64 16] w' fun e w'' => ∃ n : Nat, e = .returned (.tuple #[.int .u64 (n : Int), .bool O1.isSome]) ∧ n < 10 ^ 16 ∧ (∀ v, O1 = some v → n = v) ∧ Below w'.heap.size w' w'' := by
                      intro w'; rw [hO1]; exact fdigits_any t ht 16 (by omega) w'
                    have hd2 : ∀ w', Calls Tryd.prog 28 #[.string (bstr u), .int .i64 4] w' fun e w'' => ∃ n : Nat, e = .returned (.tuple #[.int .u64 (n : Int), .bool O2.isSome]) ∧ n < 10 ^ 4 ∧ (∀ v, O2 = some v → n = v) ∧ Below w'.heap.size w' w'' := by
                      intro w'; rw [hO2]; exact fdigits_any u hU 4 (by omega) w'
                    have Hd1 := Lib.hid hd1
                    have Hd2 := Lib.hid hd2
                    have tokd : True := trivial
                    clear hd1 hd2 hO1 hO2 ht hU
                    go_wp2_with (first
                      | (go_at_call 28; have _t := tokd; refine (Hd1.out _).mono ?_; rintro e w3 ⟨n1, rfl, hn1, hv1, hb3⟩; clear tokd)
                      | (go_at_call 28; refine (Hd2.out _).mono ?_; rintro e w4 ⟨n2, rfl, hn2, hv2, hb4⟩; refine Hid.out ?_))
                    refine Lib.hid ?_
                    have hB4 : Below w.heap.size w w4 := (hBw.trans (hb3.mono hBw.size)).trans (hb4.mono (Nat.le_trans hBw.size hb3.size))
                    have hw1 : IntKind.i64.wrap (n2 : Int) = (n2 : Int) := by rw [IntKind.wrap_i64]; omega
                    have hw2 : IntKind.i64.wrap (-(n2 : Int)) = -(n2 : Int) := by rw [IntKind.wrap_i64]; omega
                    have hof := Lib.hid (fof_any n1 ((n2 : Int)) (by omega) (by omega) (by omega) w4)
                    clear Hd1 Hd2 hn1 hn2
                    cases O1 with
                    | none =>
                      have HX := Lib.hid (show V = none by rw [HJ.out, join_none1]; rfl)
                      clear HJ hv1 hv2
                      go_wp2_with (go_at_call 29; refine hof.out.mono ?_; rintro e w' ⟨rfl, rfl⟩)
                      go_ret2
                      exact ⟨by rw [HX.out]; rfl, hB4⟩
                    | some m =>
                      obtain rfl := hv1 m rfl
                      cases O2 with
                      | none =>
                        have HX := Lib.hid (show V = none by rw [HJ.out, join_none2]; rfl)
                        clear HJ hv1 hv2
                        go_wp2_with (go_at_call 29; refine hof.out.mono ?_; rintro e w' ⟨rfl, rfl⟩)
                        go_ret2
                        exact ⟨by rw [HX.out]; rfl, hB4⟩
                      | some n =>
                        obtain rfl := hv2 n rfl
                        cases h3 : ofC n1 ((n2 : Int)) with
                        | none =>
                          have HX := Lib.hid (show V = none by rw [HJ.out]; show Option.map (fun x => 2 ^ 63 + x) (ofC n1 ((n2 : Int))) = none; rw [h3]; rfl)
                          rw [h3] at hof
                          clear HJ hv1 hv2 h3
                          go_wp2_with (go_at_call 29; refine hof.out.mono ?_; rintro e w' ⟨rfl, rfl⟩)
                          go_ret2
                          exact ⟨by rw [HX.out]; rfl, hB4⟩
                        | some a =>
                          have HX := Lib.hid (show V = some (2 ^ 63 + a) by rw [HJ.out]; show Option.map (fun x => 2 ^ 63 + x) (ofC n1 ((n2 : Int))) = _; rw [h3]; rfl)
                          have hfin := ofC_fin _ _ _ h3
                          have hmul := fun w' => run_float_arith (P := Tryd.prog) w' .mul 24 .f64 13830554455654793216 a (2 ^ 63 + a) (mul_minus_bits a hfin)
                          rw [h3] at hof
                          clear HJ hv1 hv2 h3
                          go_wp2_with (go_at_call 29; refine hof.out.mono ?_; rintro e w' ⟨rfl, rfl⟩)
                          go_ret2
                          exact ⟨by rw [HX.out]; rfl, hB4⟩
                  · rw [decide_eq_false uc] at e48
                    obtain ⟨r2, hr2⟩ : ∃ r2, u = 45 :: r2 := by
                      cases u with
                      | nil => exact absurd ub (by decide)
                      | cons c r => exact ⟨r, by rw [show c = 45 from ub]⟩
                    have hr3 : ¬ (r2 = [] ∨ r2 = [48]) := by
                      rintro (h | h)
                      · rw [hr2, h] at ua; exact ua (Nat.le_refl _)
                      · exact uc (by rw [hr2, h])
                    have hul : u.length = r2.length + 1 := by rw [hr2]; rfl
                    have hux2 : (bstr u).extract 1 u.length = bstr r2 := by rw [hr2]; exact tail_bstr' 45 r2 _ rfl
                    have HC2 := Lib.hid (show cutP R = some (t, 45 :: r2) by rw [← hr2]; exact HC.out)
                    have hU2 : r2.length ≤ 1000 := by omega
                    obtain ⟨O1, hO1⟩ : ∃ O1, O1 = valueL 10 16 t := ⟨_, rfl⟩
                    obtain ⟨O2, hO2⟩ : ∃ O2, O2 = valueL 10 4 r2 := ⟨_, rfl⟩
                    have HJ := Lib.hid (show V = Option.map (fun x => 2 ^ 63 + x) (joinC O1 O2 (fun n => -(n : Int))) by rw [HMg.out, join_strip R t r2 HC2.out hr3, ← hO1, ← hO2])
                    clear ua ub uc HC HC2 HMg hr2 hr3 hul hU
                    have hU := hU2
                    clear hU2
                    have hd1 : ∀ w', Calls Tryd.prog 28 #[.string (bstr t), .int .i64 16] w' fun e w'' => ∃ n : Nat, e = .returned (.tuple #[.int .u64 (n : Int), .bool O1.isSome]) ∧ n < 10 ^ 16 ∧ (∀ v, O1 = some v → n = v) ∧ Below w'.heap.size w' w'' := by
                      intro w'; rw [hO1]; exact fdigits_any t ht 16 (by omega) w'
                    have hd2 : ∀ w', Calls Tryd.prog 28 #[.string (bstr r2), .int .i64 4] w' fun e w'' => ∃ n : Nat, e = .returned (.tuple #[.int .u64 (n : Int), .bool O2.isSome]) ∧ n < 10 ^ 4 ∧ (∀ v, O2 = some v → n = v) ∧ Below w'.heap.size w' w'' := by
                      intro w'; rw [hO2]; exact fdigits_any r2 hU 4 (by omega) w'
                    have Hd1 := Lib.hid hd1
                    have Hd2 := Lib.hid hd2
                    have tokd : True := trivial
                    clear hd1 hd2 hO1 hO2 ht hU
                    go_wp2_with (first
                      | (go_at_call 28; have _t := tokd; refine (Hd1.out _).mono ?_; rintro e w3 ⟨n1, rfl, hn1, hv1, hb3⟩; clear tokd)
                      | (go_at_call 28; refine (Hd2.out _).mono ?_; rintro e w4 ⟨n2, rfl, hn2, hv2, hb4⟩; refine Hid.out ?_))
                    refine Lib.hid ?_
                    have hB4 : Below w.heap.size w w4 := (hBw.trans (hb3.mono hBw.size)).trans (hb4.mono (Nat.le_trans hBw.size hb3.size))
                    have hw1 : IntKind.i64.wrap (n2 : Int) = (n2 : Int) := by rw [IntKind.wrap_i64]; omega
                    have hw2 : IntKind.i64.wrap (-(n2 : Int)) = -(n2 : Int) := by rw [IntKind.wrap_i64]; omega
                    have hof := Lib.hid (fof_any n1 (-(n2 : Int)) (by omega) (by omega) (by omega) w4)
                    clear Hd1 Hd2 hn1 hn2
                    cases O1 with
                    | none =>
                      have HX := Lib.hid (show V = none by rw [HJ.out, join_none1]; rfl)
                      clear HJ hv1 hv2
                      go_wp2_with (go_at_call 29; refine hof.out.mono ?_; rintro e w' ⟨rfl, rfl⟩)
                      go_ret2
                      exact ⟨by rw [HX.out]; rfl, hB4⟩
                    | some m =>
                      obtain rfl := hv1 m rfl
                      cases O2 with
                      | none =>
                        have HX := Lib.hid (show V = none by rw [HJ.out, join_none2]; rfl)
                        clear HJ hv1 hv2
                        go_wp2_with (go_at_call 29; refine hof.out.mono ?_; rintro e w' ⟨rfl, rfl⟩)
                        go_ret2
                        exact ⟨by rw [HX.out]; rfl, hB4⟩
                      | some n =>
                        obtain rfl := hv2 n rfl
                        cases h3 : ofC n1 (-(n2 : Int)) with
                        | none =>
                          have HX := Lib.hid (show V = none by rw [HJ.out]; show Option.map (fun x => 2 ^ 63 + x) (ofC n1 (-(n2 : Int))) = none; rw [h3]; rfl)
                          rw [h3] at hof
                          clear HJ hv1 hv2 h3
                          go_wp2_with (go_at_call 29; refine hof.out.mono ?_; rintro e w' ⟨rfl, rfl⟩)
                          go_ret2
                          exact ⟨by rw [HX.out]; rfl, hB4⟩
                        | some a =>
                          have HX := Lib.hid (show V = some (2 ^ 63 + a) by rw [HJ.out]; show Option.map (fun x => 2 ^ 63 + x) (ofC n1 (-(n2 : Int))) = _; rw [h3]; rfl)
                          have hfin := ofC_fin _ _ _ h3
                          have hmul := fun w' => run_float_arith (P := Tryd.prog) w' .mul 24 .f64 13830554455654793216 a (2 ^ 63 + a) (mul_minus_bits a hfin)
                          rw [h3] at hof
                          clear HJ hv1 hv2 h3
                          go_wp2_with (go_at_call 29; refine hof.out.mono ?_; rintro e w' ⟨rfl, rfl⟩)
                          go_ret2
                          exact ⟨by rw [HX.out]; rfl, hB4⟩
                · have uy : (((u.getD 0 0).toNat : Int) == 45) = false := by
                    rw [beq_eq_false_iff_ne]
                    intro h
                    exact ub (UInt8.toNat_inj.1 (by rw [show (45 : UInt8).toNat = 45 from rfl]; omega))
                  obtain ⟨O1, hO1⟩ : ∃ O1, O1 = valueL 10 16 t := ⟨_, rfl⟩
                  obtain ⟨O2, hO2⟩ : ∃ O2, O2 = valueL 10 4 u := ⟨_, rfl⟩
                  have HJ := Lib.hid (show V = Option.map (fun x => 2 ^ 63 + x) (joinC O1 O2 (fun n => (n : Int))) by rw [HMg.out, join_keep R t u HC.out (.inl ub), ← hO1, ← hO2])
                  generalize u.getD 0 0 = y at *
                  clear ua ub HC HMg
                  have hd1 : ∀ w', Calls Tryd.prog 28 #[.string (bstr t), .int .i64 16] w' fun e w'' => ∃ n : Nat, e = .returned (.tuple #[.int .u64 (n : Int), .bool O1.isSome]) ∧ n < 10 ^ 16 ∧ (∀ v, O1 = some v → n = v) ∧ Below w'.heap.size w' w'' := by
                    intro w'; rw [hO1]; exact fdigits_any t ht 16 (by omega) w'
                  have hd2 : ∀ w', Calls Tryd.prog 28 #[.string (bstr u), .int .i64 4] w' fun e w'' => ∃ n : Nat, e = .returned (.tuple #[.int .u64 (n : Int), .bool O2.isSome]) ∧ n < 10 ^ 4 ∧ (∀ v, O2 = some v → n = v) ∧ Below w'.heap.size w' w'' := by
                    intro w'; rw [hO2]; exact fdigits_any u hU 4 (by omega) w'
                  have Hd1 := Lib.hid hd1
                  have Hd2 := Lib.hid hd2
                  have tokd : True := trivial
                  clear hd1 hd2 hO1 hO2 ht hU
                  go_wp2_with (first
                    | (go_at_call 28; have _t := tokd; refine (Hd1.out _).mono ?_; rintro e w3 ⟨n1, rfl, hn1, hv1, hb3⟩; clear tokd)
                    | (go_at_call 28; refine (Hd2.out _).mono ?_; rintro e w4 ⟨n2, rfl, hn2, hv2, hb4⟩; refine Hid.out ?_))
                  refine Lib.hid ?_
                  have hB4 : Below w.heap.size w w4 := (hBw.trans (hb3.mono hBw.size)).trans (hb4.mono (Nat.le_trans hBw.size hb3.size))
                  have hw1 : IntKind.i64.wrap (n2 : Int) = (n2 : Int) := by rw [IntKind.wrap_i64]; omega
                  have hw2 : IntKind.i64.wrap (-(n2 : Int)) = -(n2 : Int) := by rw [IntKind.wrap_i64]; omega
                  have hof := Lib.hid (fof_any n1 ((n2 : Int)) (by omega) (by omega) (by omega) w4)
                  clear Hd1 Hd2 hn1 hn2
                  cases O1 with
                  | none =>
                    have HX := Lib.hid (show V = none by rw [HJ.out, join_none1]; rfl)
                    clear HJ hv1 hv2
                    go_wp2_with (go_at_call 29; refine hof.out.mono ?_; rintro e w' ⟨rfl, rfl⟩)
                    go_ret2
                    exact ⟨by rw [HX.out]; rfl, hB4⟩
                  | some m =>
                    obtain rfl := hv1 m rfl
                    cases O2 with
                    | none =>
                      have HX := Lib.hid (show V = none by rw [HJ.out, join_none2]; rfl)
                      clear HJ hv1 hv2
                      go_wp2_with (go_at_call 29; refine hof.out.mono ?_; rintro e w' ⟨rfl, rfl⟩)
                      go_ret2
                      exact ⟨by rw [HX.out]; rfl, hB4⟩
                    | some n =>
                      obtain rfl := hv2 n rfl
                      cases h3 : ofC n1 ((n2 : Int)) with
                      | none =>
                        have HX := Lib.hid (show V = none by rw [HJ.out]; show Option.map (fun x => 2 ^ 63 + x) (ofC n1 ((n2 : Int))) = none; rw [h3]; rfl)
                        rw [h3] at hof
                        clear HJ hv1 hv2 h3
                        go_wp2_with (go_at_call 29; refine hof.out.mono ?_; rintro e w' ⟨rfl, rfl⟩)
                        go_ret2
                        exact ⟨by rw [HX.out]; rfl, hB4⟩
                      | some a =>
                        have HX := Lib.hid (show V = some (2 ^ 63 + a) by rw [HJ.out]; show Option.map (fun x => 2 ^ 63 + x) (ofC n1 ((n2 : Int))) = _; rw [h3]; rfl)
                        have hfin := ofC_fin _ _ _ h3
                        have hmul := fun w' => run_float_arith (P := Tryd.prog) w' .mul 24 .f64 13830554455654793216 a (2 ^ 63 + a) (mul_minus_bits a hfin)
                        rw [h3] at hof
                        clear HJ hv1 hv2 h3
                        go_wp2_with (go_at_call 29; refine hof.out.mono ?_; rintro e w' ⟨rfl, rfl⟩)
                        go_ret2
                        exact ⟨by rw [HX.out]; rfl, hB4⟩
            · have hb : (((R.getD k 0).toNat : Int) != 112) = true := by
                rw [bne_iff_ne]
                intro h
                exact hc (UInt8.toNat_inj.1 (by rw [show (112 : UInt8).toNat = 112 from rfl]; omega))
              have HNO := Lib.hid (show ∀ j, j < k + 1 → R.getD j 0 ≠ 112 from fun j hj => by
                rcases Nat.lt_or_eq_of_le (Nat.le_of_lt_succ hj) with h | h
                · exact hno j h
                · rw [h]; exact hc)
              generalize R.getD k 0 = y at *
              clear hno hc
              go_wp2
              go_round
              case rel => exact ⟨k + 1, by omega, by go_num, HNO.out⟩
              case measure => simp [intOf]; omega
          · obtain rfl : k = R.length := by omega
            have HX := Lib.hid (show V = none by rw [HMg.out, magP_miss R (cutP_miss R hno)]; rfl)
            clear hno HMg
            go_wp2
            go_ret2
            exact ⟨by rw [HX.out]; rfl, hBw⟩
      · have HMg := Lib.hid (HS.out hno hsg)
        clear hno HS HN
        obtain ⟨R, hR⟩ : ∃ R, R = s := ⟨_, rfl⟩
        subst hR
        have hRl : R.length ≤ 1000 := hs
        have hzR := hz
        by_cases hl0 : R.length = 0
        · have hlp : ((R.length : Nat) : Int) = 0 := by omega
          have HX := Lib.hid (show V = none by rw [HMg.out, List.length_eq_zero_iff.1 hl0]; rfl)
          clear HMg hsg hl0
          go_wp2
          go_loop [8] (fun i => i = .int .i64 0) (fun _ => 0)
          case atStart => rfl
          case round =>
            subst hrel
            go_wp2
            go_ret2
            exact ⟨by rw [HX.out]; rfl, hBw⟩
        · have hlp : (0 : Int) < (R.length : Int) := by omega
          have hix : ∀ w', (Instr.index 9 (.string (bstr R)) (.int .i64 0)).run Tryd.prog w' = .ok (.int .u8 ((R.getD 0 0).toNat : Int)) w' := fun w' => index_bstr R 0 (by omega) w'
          have hy : (((R.getD 0 0).toNat : Int) == 45) = false := by
            rw [beq_eq_false_iff_ne]
            intro h
            exact hsg (UInt8.toNat_inj.1 (by rw [show (45 : UInt8).toNat = 45 from rfl]; omega))
          generalize R.getD 0 0 = y at *
          clear hsg hl0
          go_wp2
          clear hix hy
          go_loop [8] (fun i => ∃ k : Nat, k ≤ R.length ∧ i = .int .i64 k ∧ ∀ j, j < k → R.getD j 0 ≠ 112) (fun i => R.length - (intOf i).toNat)
          case atStart => exact ⟨0, by omega, rfl, fun j h => by omega⟩
          case round =>
            obtain ⟨k, hk, rfl, hno⟩ := hrel
            by_cases hlt : k < R.length
            · have hlt' : (k : Int) < (R.length : Int) := by omega
              have hix := index_bstr R k hlt
              by_cases hc : R.getD k 0 = 112
              · have hix2 : ∀ w', (Instr.index 9 (.string (bstr R)) (.int .i64 k)).run Tryd.prog w' = .ok (.int .u8 112) w' := by rw [hc] at hix; exact hix
                have HC := Lib.hid (cutP_hit R k hlt hc hno)
                have hwk : IntKind.i64.wrap ((k : Int) + 1) = (k : Int) + 1 := by rw [IntKind.wrap_i64]; omega
                have hk1 : (k : Int) + 1 ≤ (R.length : Int) := by omega
                have hk0 : (k : Int) ≤ (R.length : Int) := by omega
                have hx1 : (bstr R).extract (k + 1) R.length = bstr (R.drop (k + 1)) := by rw [extract_bstr12, List.take_of_length_le (by rw [List.length_drop]; omega)]
                have hx2 : (bstr R).extract 0 k = bstr (R.take k) := by rw [extract_bstr12, List.drop_zero]; rfl
                have ht : (R.take k).length ≤ 1000 := by rw [List.length_take]; omega
                have hU : (R.drop (k + 1)).length ≤ 1000 := by rw [List.length_drop]; omega
                have hzu := size_bstr (R.drop (k + 1))
                generalize R.take k = t at *
                generalize R.drop (k + 1) = u at *
                clear hix hc hno
                by_cases ua : u.length ≤ 1
                · obtain ⟨O1, hO1⟩ : ∃ O1, O1 = valueL 10 16 t := ⟨_, rfl⟩
                  obtain ⟨O2, hO2⟩ : ∃ O2, O2 = valueL 10 4 u := ⟨_, rfl⟩
                  have ua1 : decide ((1 : Int) < (u.length : Int)) = false := decide_eq_false (by omega)
                  have HJ := Lib.hid (show V = joinC O1 O2 (fun n => (n : Int)) by rw [HMg.out, join_keep R t u HC.out (.inr (.inl ua)), ← hO1, ← hO2])
                  clear ua HC HMg
                  have hd1 : ∀ w', Calls Tryd.prog 28 #[.string (bstr t), .int .i64 16] w' fun e w'' => ∃ n : Nat, e = .returned (.tuple #[.int .u64 (n : Int), .bool O1.isSome]) ∧ n < 10 ^ 16 ∧ (∀ v, O1 = some v → n = v) ∧ Below w'.heap.size w' w'' := by
                    intro w'; rw [hO1]; exact fdigits_any t ht 16 (by omega) w'
                  have hd2 : ∀ w', Calls Tryd.prog 28 #[.string (bstr u), .int .i64 4] w' fun e w'' => ∃ n : Nat, e = .returned (.tuple #[.int .u64 (n : Int), .bool O2.isSome]) ∧ n < 10 ^ 4 ∧ (∀ v, O2 = some v → n = v) ∧ Below w'.heap.size w' w'' := by
                    intro w'; rw [hO2]; exact fdigits_any u hU 4 (by omega) w'
                  have Hd1 := Lib.hid hd1
                  have Hd2 := Lib.hid hd2
                  have tokd : True := trivial
                  clear hd1 hd2 hO1 hO2 ht hU
                  go_wp2_with (first
                    | (go_at_call 28; have _t := tokd; refine (Hd1.out _).mono ?_; rintro e w3 ⟨n1, rfl, hn1, hv1, hb3⟩; clear tokd)
                    | (go_at_call 28; refine (Hd2.out _).mono ?_; rintro e w4 ⟨n2, rfl, hn2, hv2, hb4⟩; refine Hid.out ?_))
                  refine Lib.hid ?_
                  have hB4 : Below w.heap.size w w4 := (hBw.trans (hb3.mono hBw.size)).trans (hb4.mono (Nat.le_trans hBw.size hb3.size))
                  have hw1 : IntKind.i64.wrap (n2 : Int) = (n2 : Int) := by rw [IntKind.wrap_i64]; omega
                  have hw2 : IntKind.i64.wrap (-(n2 : Int)) = -(n2 : Int) := by rw [IntKind.wrap_i64]; omega
                  have hof := Lib.hid (fof_any n1 ((n2 : Int)) (by omega) (by omega) (by omega) w4)
                  clear Hd1 Hd2 hn1 hn2
                  cases O1 with
                  | none =>
                    have HX := Lib.hid (show V = none by rw [HJ.out, join_none1])
                    clear HJ hv1 hv2
                    go_wp2_with (go_at_call 29; refine hof.out.mono ?_; rintro e w' ⟨rfl, rfl⟩)
                    go_ret2
                    exact ⟨by rw [HX.out]; rfl, hB4⟩
                  | some m =>
                    obtain rfl := hv1 m rfl
                    cases O2 with
                    | none =>
                      have HX := Lib.hid (show V = none by rw [HJ.out, join_none2])
                      clear HJ hv1 hv2
                      go_wp2_with (go_at_call 29; refine hof.out.mono ?_; rintro e w' ⟨rfl, rfl⟩)
                      go_ret2
                      exact ⟨by rw [HX.out]; rfl, hB4⟩
                    | some n =>
                      obtain rfl := hv2 n rfl
                      cases h3 : ofC n1 ((n2 : Int)) with
                      | none =>
                        have HX := Lib.hid (show V = none by rw [HJ.out]; show (ofC n1 ((n2 : Int))) = none; rw [h3])
                        rw [h3] at hof
                        clear HJ hv1 hv2 h3
                        go_wp2_with (go_at_call 29; refine hof.out.mono ?_; rintro e w' ⟨rfl, rfl⟩)
                        go_ret2
                        exact ⟨by rw [HX.out]; rfl, hB4⟩
                      | some a =>
                        have HX := Lib.hid (show V = some (a) by rw [HJ.out]; show (ofC n1 ((n2 : Int))) = _; rw [h3])
                        have hfin := ofC_fin _ _ _ h3
                        have hmul := fun w' => run_float_arith (P := Tryd.prog) w' .mul 24 .f64 4607182418800017408 a (a) (mul_one_bits a hfin)
                        rw [h3] at hof
                        clear HJ hv1 hv2 h3
                        go_wp2_with (go_at_call 29; refine hof.out.mono ?_; rintro e w' ⟨rfl, rfl⟩)
                        go_ret2
                        exact ⟨by rw [HX.out]; rfl, hB4⟩
                · have ua1 : (1 : Int) < (u.length : Int) := by omega
                  have hux : ∀ w', (Instr.index 9 (.string (bstr u)) (.int .i64 0)).run Tryd.prog w' = .ok (.int .u8 ((u.getD 0 0).toNat : Int)) w' := fun w' => index_bstr u 0 (by omega) w'
                  by_cases ub : u.getD 0 0 = 45
                  · rw [ub] at hux
                    have hux : ∀ w', (Instr.index 9 (.string (bstr u)) (.int .i64 0)).run Tryd.prog w' = .ok (.int .u8 45) w' := hux
                    have e48 := bstr_is u [45, 48]
                    by_cases uc : u = [45, 48]
                    · obtain ⟨O1, hO1⟩ : ∃ O1, O1 = valueL 10 16 t := ⟨_, rfl⟩
                      obtain ⟨O2, hO2⟩ : ∃ O2, O2 = valueL 10 4 u := ⟨_, rfl⟩
                      rw [decide_eq_true uc] at e48
                      have HJ := Lib.hid (show V = joinC O1 O2 (fun n => (n : Int)) by rw [HMg.out, join_keep R t u HC.out (.inr (.inr uc)), ← hO1, ← hO2])
                      clear ua ub uc HC HMg
                      have hd1 : ∀ w', Calls Tryd.prog 28 #[.string (bstr t), .int .i64 16] w' fun e w'' => ∃ n : Nat, e = .returned (.tuple #[.int .u64 (n : Int), .bool O1.isSome]) ∧ n < 10 ^ 16 ∧ (∀ v, O1 = some v → n = v) ∧ Below w'.heap.size w' w'' := by
                        intro w'; rw [hO1]; exact fdigits_any t ht 16 (by omega) w'
                      have hd2 : ∀ w', Calls Tryd.prog 28 #[.string (bstr u), .int .i64 4] w' fun e w'' => ∃ n : Nat, e = .returned (.tuple #[.int .u64 (n : Int), .bool O2.isSome]) ∧ n < 10 ^ 4 ∧ (∀ v, O2 = some v → n = v) ∧ Below w'.heap.size w' w'' := by
                        intro w'; rw [hO2]; exact fdigits_any u hU 4 (by omega) w'
                      have Hd1 := Lib.hid hd1
                      have Hd2 := Lib.hid hd2
                      have tokd : True := trivial
                      clear hd1 hd2 hO1 hO2 ht hU
                      go_wp2_with (first
                        | (go_at_call 28; have _t := tokd; refine (Hd1.out _).mono ?_; rintro e w3 ⟨n1, rfl, hn1, hv1, hb3⟩; clear tokd)
                        | (go_at_call 28; refine (Hd2.out _).mono ?_; rintro e w4 ⟨n2, rfl, hn2, hv2, hb4⟩; refine Hid.out ?_))
                      refine Lib.hid ?_
                      have hB4 : Below w.heap.size w w4 := (hBw.trans (hb3.mono hBw.size)).trans (hb4.mono (Nat.le_trans hBw.size hb3.size))
                      have hw1 : IntKind.i64.wrap (n2 : Int) = (n2 : Int) := by rw [IntKind.wrap_i64]; omega
                      have hw2 : IntKind.i64.wrap (-(n2 : Int)) = -(n2 : Int) := by rw [IntKind.wrap_i64]; omega
                      have hof := Lib.hid (fof_any n1 ((n2 : Int)) (by omega) (by omega) (by omega) w4)
                      clear Hd1 Hd2 hn1 hn2
                      cases O1 with
                      | none =>
                        have HX := Lib.hid (show V = none by rw [HJ.out, join_none1])
                        clear HJ hv1 hv2
                        go_wp2_with (go_at_call 29; refine hof.out.mono ?_; rintro e w' ⟨rfl, rfl⟩)
                        go_ret2
                        exact ⟨by rw [HX.out]; rfl, hB4⟩
                      | some m =>
                        obtain rfl := hv1 m rfl
                        cases O2 with
                        | none =>
                          have HX := Lib.hid (show V = none by rw [HJ.out, join_none2])
                          clear HJ hv1 hv2
                          go_wp2_with (go_at_call 29; refine hof.out.mono ?_; rintro e w' ⟨rfl, rfl⟩)
                          go_ret2
                          exact ⟨by rw [HX.out]; rfl, hB4⟩
                        | some n =>
                          obtain rfl := hv2 n rfl
                          cases h3 : ofC n1 ((n2 : Int)) with
                          | none =>
                            have HX := Lib.hid (show V = none by rw [HJ.out]; show (ofC n1 ((n2 : Int))) = none; rw [h3])
                            rw [h3] at hof
                            clear HJ hv1 hv2 h3
                            go_wp2_with (go_at_call 29; refine hof.out.mono ?_; rintro e w' ⟨rfl, rfl⟩)
                            go_ret2
                            exact ⟨by rw [HX.out]; rfl, hB4⟩
                          | some a =>
                            have HX := Lib.hid (show V = some (a) by rw [HJ.out]; show (ofC n1 ((n2 : Int))) = _; rw [h3])
                            have hfin := ofC_fin _ _ _ h3
                            have hmul := fun w' => run_float_arith (P := Tryd.prog) w' .mul 24 .f64 4607182418800017408 a (a) (mul_one_bits a hfin)
                            rw [h3] at hof
                            clear HJ hv1 hv2 h3
                            go_wp2_with (go_at_call 29; refine hof.out.mono ?_; rintro e w' ⟨rfl, rfl⟩)
                            go_ret2
                            exact ⟨by rw [HX.out]; rfl, hB4⟩
                    · rw [decide_eq_false uc] at e48
                      obtain ⟨r2, hr2⟩ : ∃ r2, u = 45 :: r2 := by
                        cases u with
                        | nil => exact absurd ub (by decide)
                        | cons c r => exact ⟨r, by rw [show c = 45 from ub]⟩
                      have hr3 : ¬ (r2 = [] ∨ r2 = [48]) := by
                        rintro (h | h)
                        · rw [hr2, h] at ua; exact ua (Nat.le_refl _)
                        · exact uc (by rw [hr2, h])
                      have hul : u.length = r2.length + 1 := by rw [hr2]; rfl
                      have hux2 : (bstr u).extract 1 u.length = bstr r2 := by rw [hr2]; exact tail_bstr' 45 r2 _ rfl
                      have HC2 := Lib.hid (show cutP R = some (t, 45 :: r2) by rw [← hr2]; exact HC.out)
                      have hU2 : r2.length ≤ 1000 := by omega
                      obtain ⟨O1, hO1⟩ : ∃ O1, O1 = valueL 10 16 t := ⟨_, rfl⟩
                      obtain ⟨O2, hO2⟩ : ∃ O2, O2 = valueL 10 4 r2 := ⟨_, rfl⟩
                      have HJ := Lib.hid (show V = joinC O1 O2 (fun n => -(n : Int)) by rw [HMg.out, join_strip R t r2 HC2.out hr3, ← hO1, ← hO2])
                      clear ua ub uc HC HC2 HMg hr2 hr3 hul hU
                      have hU := hU2
                      clear hU2
                      have hd1 : ∀ w', Calls Tryd.prog 28 #[.string (bstr t), .int .i64 16] w' fun e w'' => ∃ n : Nat, e = .returned (.tuple #[.int .u64 (n : Int), .bool O1.isSome]) ∧ n < 10 ^ 16 ∧ (∀ v, O1 = some v → n = v) ∧ Below w'.heap.size w' w'' := by
                        intro w'; rw [hO1]; exact fdigits_any t ht 16 (by omega) w'
                      have hd2 : ∀ w', Calls Tryd.prog 28 #[.string (bstr r2), .int .i64 4] w' fun e w'' => ∃ n : Nat, e = .returned (.tuple #[.int .u64 (n : Int), .bool O2.isSome]) ∧ n < 10 ^ 4 ∧ (∀ v, O2 = some v → n = v) ∧ Below w'.heap.size w' w'' := by
                        intro w'; rw [hO2]; exact fdigits_any r2 hU 4 (by omega) w'
                      have Hd1 := Lib.hid hd1
                      have Hd2 := Lib.hid hd2
                      have tokd : True := trivial
                      clear hd1 hd2 hO1 hO2 ht hU
                      go_wp2_with (first
                        | (go_at_call 28; have _t := tokd; refine (Hd1.out _).mono ?_; rintro e w3 ⟨n1, rfl, hn1, hv1, hb3⟩; clear tokd)
                        | (go_at_call 28; refine (Hd2.out _).mono ?_; rintro e w4 ⟨n2, rfl, hn2, hv2, hb4⟩; refine Hid.out ?_))
                      refine Lib.hid ?_
                      have hB4 : Below w.heap.size w w4 := (hBw.trans (hb3.mono hBw.size)).trans (hb4.mono (Nat.le_trans hBw.size hb3.size))
                      have hw1 : IntKind.i64.wrap (n2 : Int) = (n2 : Int) := by rw [IntKind.wrap_i64]; omega
                      have hw2 : IntKind.i64.wrap (-(n2 : Int)) = -(n2 : Int) := by rw [IntKind.wrap_i64]; omega
                      have hof := Lib.hid (fof_any n1 (-(n2 : Int)) (by omega) (by omega) (by omega) w4)
                      clear Hd1 Hd2 hn1 hn2
                      cases O1 with
                      | none =>
                        have HX := Lib.hid (show V = none by rw [HJ.out, join_none1])
                        clear HJ hv1 hv2
                        go_wp2_with (go_at_call 29; refine hof.out.mono ?_; rintro e w' ⟨rfl, rfl⟩)
                        go_ret2
                        exact ⟨by rw [HX.out]; rfl, hB4⟩
                      | some m =>
                        obtain rfl := hv1 m rfl
                        cases O2 with
                        | none =>
                          have HX := Lib.hid (show V = none by rw [HJ.out, join_none2])
                          clear HJ hv1 hv2
                          go_wp2_with (go_at_call 29; refine hof.out.mono ?_; rintro e w' ⟨rfl, rfl⟩)
                          go_ret2
                          exact ⟨by rw [HX.out]; rfl, hB4⟩
                        | some n =>
                          obtain rfl := hv2 n rfl
                          cases h3 : ofC n1 (-(n2 : Int)) with
                          | none =>
                            have HX := Lib.hid (show V = none by rw [HJ.out]; show (ofC n1 (-(n2 : Int))) = none; rw [h3])
                            rw [h3] at hof
                            clear HJ hv1 hv2 h3
                            go_wp2_with (go_at_call 29; refine hof.out.mono ?_; rintro e w' ⟨rfl, rfl⟩)
                            go_ret2
                            exact ⟨by rw [HX.out]; rfl, hB4⟩
                          | some a =>
                            have HX := Lib.hid (show V = some (a) by rw [HJ.out]; show (ofC n1 (-(n2 : Int))) = _; rw [h3])
                            have hfin := ofC_fin _ _ _ h3
                            have hmul := fun w' => run_float_arith (P := Tryd.prog) w' .mul 24 .f64 4607182418800017408 a (a) (mul_one_bits a hfin)
                            rw [h3] at hof
                            clear HJ hv1 hv2 h3
                            go_wp2_with (go_at_call 29; refine hof.out.mono ?_; rintro e w' ⟨rfl, rfl⟩)
                            go_ret2
                            exact ⟨by rw [HX.out]; rfl, hB4⟩
                  · have uy : (((u.getD 0 0).toNat : Int) == 45) = false := by
                      rw [beq_eq_false_iff_ne]
                      intro h
                      exact ub (UInt8.toNat_inj.1 (by rw [show (45 : UInt8).toNat = 45 from rfl]; omega))
                    obtain ⟨O1, hO1⟩ : ∃ O1, O1 = valueL 10 16 t := ⟨_, rfl⟩
                    obtain ⟨O2, hO2⟩ : ∃ O2, O2 = valueL 10 4 u := ⟨_, rfl⟩
                    have HJ := Lib.hid (show V = joinC O1 O2 (fun n => (n : Int)) by rw [HMg.out, join_keep R t u HC.out (.inl ub), ← hO1, ← hO2])
                    generalize u.getD 0 0 = y at *
                    clear ua ub HC HMg
                    have hd1 : ∀ w', Calls Tryd.prog 28 #[.string (bstr t), .int .i64 16] w' fun e w'' => ∃ n : Nat, e = .returned (.tuple #[.int .u64 (n : Int), .bool O1.isSome]) ∧ n < 10 ^ 16 ∧ (∀ v, O1 = some v → n = v) ∧ Below w'.heap.size w' w'' := by
                      intro w'; rw [hO1]; exact fdigits_any t ht 16 (by omega) w'
                    have hd2 : ∀ w', Calls Tryd.prog 28 #[.string (bstr u), .int .i64 4] w' fun e w'' => ∃ n : Nat, e = .returned (.tuple #[.int .u64 (n : Int), .bool O2.isSome]) ∧ n < 10 ^ 4 ∧ (∀ v, O2 = some v → n = v) ∧ Below w'.heap.size w' w'' := by
                      intro w'; rw [hO2]; exact fdigits_any u hU 4 (by omega) w'
                    have Hd1 := Lib.hid hd1
                    have Hd2 := Lib.hid hd2
                    have tokd : True := trivial
                    clear hd1 hd2 hO1 hO2 ht hU
                    go_wp2_with (first
                      | (go_at_call 28; have _t := tokd; refine (Hd1.out _).mono ?_; rintro e w3 ⟨n1, rfl, hn1, hv1, hb3⟩; clear tokd)
                      | (go_at_call 28; refine (Hd2.out _).mono ?_; rintro e w4 ⟨n2, rfl, hn2, hv2, hb4⟩; refine Hid.out ?_))
                    refine Lib.hid ?_
                    have hB4 : Below w.heap.size w w4 := (hBw.trans (hb3.mono hBw.size)).trans (hb4.mono (Nat.le_trans hBw.size hb3.size))
                    have hw1 : IntKind.i64.wrap (n2 : Int) = (n2 : Int) := by rw [IntKind.wrap_i64]; omega
                    have hw2 : IntKind.i64.wrap (-(n2 : Int)) = -(n2 : Int) := by rw [IntKind.wrap_i64]; omega
                    have hof := Lib.hid (fof_any n1 ((n2 : Int)) (by omega) (by omega) (by omega) w4)
                    clear Hd1 Hd2 hn1 hn2
                    cases O1 with
                    | none =>
                      have HX := Lib.hid (show V = none by rw [HJ.out, join_none1])
                      clear HJ hv1 hv2
                      go_wp2_with (go_at_call 29; refine hof.out.mono ?_; rintro e w' ⟨rfl, rfl⟩)
                      go_ret2
                      exact ⟨by rw [HX.out]; rfl, hB4⟩
                    | some m =>
                      obtain rfl := hv1 m rfl
                      cases O2 with
                      | none =>
                        have HX := Lib.hid (show V = none by rw [HJ.out, join_none2])
                        clear HJ hv1 hv2
                        go_wp2_with (go_at_call 29; refine hof.out.mono ?_; rintro e w' ⟨rfl, rfl⟩)
                        go_ret2
                        exact ⟨by rw [HX.out]; rfl, hB4⟩
                      | some n =>
                        obtain rfl := hv2 n rfl
                        cases h3 : ofC n1 ((n2 : Int)) with
                        | none =>
                          have HX := Lib.hid (show V = none by rw [HJ.out]; show (ofC n1 ((n2 : Int))) = none; rw [h3])
                          rw [h3] at hof
                          clear HJ hv1 hv2 h3
                          go_wp2_with (go_at_call 29; refine hof.out.mono ?_; rintro e w' ⟨rfl, rfl⟩)
                          go_ret2
                          exact ⟨by rw [HX.out]; rfl, hB4⟩
                        | some a =>
                          have HX := Lib.hid (show V = some (a) by rw [HJ.out]; show (ofC n1 ((n2 : Int))) = _; rw [h3])
                          have hfin := ofC_fin _ _ _ h3
                          have hmul := fun w' => run_float_arith (P := Tryd.prog) w' .mul 24 .f64 4607182418800017408 a (a) (mul_one_bits a hfin)
                          rw [h3] at hof
                          clear HJ hv1 hv2 h3
                          go_wp2_with (go_at_call 29; refine hof.out.mono ?_; rintro e w' ⟨rfl, rfl⟩)
                          go_ret2
                          exact ⟨by rw [HX.out]; rfl, hB4⟩
              · have hb : (((R.getD k 0).toNat : Int) != 112) = true := by
                  rw [bne_iff_ne]
                  intro h
                  exact hc (UInt8.toNat_inj.1 (by rw [show (112 : UInt8).toNat = 112 from rfl]; omega))
                have HNO := Lib.hid (show ∀ j, j < k + 1 → R.getD j 0 ≠ 112 from fun j hj => by
                  rcases Nat.lt_or_eq_of_le (Nat.le_of_lt_succ hj) with h | h
                  · exact hno j h
                  · rw [h]; exact hc)
                generalize R.getD k 0 = y at *
                clear hno hc
                go_wp2
                go_round
                case rel => exact ⟨k + 1, by omega, by go_num, HNO.out⟩
                case measure => simp [intOf]; omega
            · obtain rfl : k = R.length := by omega
              have HX := Lib.hid (show V = none by rw [HMg.out, magP_miss R (cutP_miss R hno)])
              clear hno HMg
              go_wp2
              go_ret2
              exact ⟨by rw [HX.out]; rfl, hBw⟩
end Go.Proofs.YtimhhnhppnknhaaDoor
