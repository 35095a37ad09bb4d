import Derived.Test.YtjieebmcbpdeiaaGreatDoorRaaj
namespace Go.Proofs.YtjieebmcbpdeiaaGreatDoor
set_option maxRecDepth 100000
open Go Go.RowKit
set_option maxHeartbeats 64000000 in
theorem fparse_any (s : List UInt8) (hs : s.length ≤ 1000) (w : World) : Calls Tryz.prog 56 #[.string (bstr s)] w fun e w' => e = .returned (.tuple #[.float .f64 ((parseC s).getD 0), .bool (parseC s).isSome]) ∧ Below w.heap.size w w' := by
 have hz := size_bstr s
 have hc0 := Lib.hid (fun w' => fmzero_any w')
 have hi0 := Lib.hid (fun w' => finf_any w')
 have hi1 := Lib.hid (fun w' => fminf_any w')
 have htx := Lib.hid (fun j h w' => ftext_any (fourC.getD j 0) (four_ok j h).1 w')
 obtain ⟨V, hV⟩ : ∃ V, V = parseC s := ⟨_, rfl⟩
 have HF := Lib.hid (fun j h e => hV.trans (parse_four s j h e))
 have HS := Lib.hid (fun h4 h => hV.trans (parse_pos s h4 h))
 have HN := Lib.hid (fun r e h4 => hV.trans (parse_neg' s r e h4))
 rw [← hV]
 clear hV
 have tok : True := trivial
 obtain ⟨w1, hw1⟩ : ∃ w1, w1 = w.alloc (.cells #[.float .f64 0, .float .f64 9223372036854775808, .float .f64 9218868437227405312, .float .f64 18442240474082181120] 29) := ⟨_, rfl⟩
 have hr1 : Row w1 w.heap.size 29 [.float .f64 0, .float .f64 9223372036854775808, .float .f64 9218868437227405312, .float .f64 18442240474082181120] := by rw [hw1]; exact Row.new w _ _
 have hb1 : Below w.heap.size w w1 := by rw [hw1]; exact (Below.refl _ w).alloc (Nat.le_refl _) _
 have HW1 := Lib.hid hw1
 clear hw1
 go_enter Tryz.func56, Tryz.ntmps56
 go_wp2_with (first
  | (go_at_call 95; refine (hc0.out _).mono ?_; rintro e w' ⟨rfl, rfl⟩)
  | (go_at_call 96; have _t := tok; refine (hi0.out _).mono ?_; rintro e w' ⟨rfl, rfl⟩; clear tok)
  | (go_at_call 96; refine (hi1.out _).mono ?_; rintro e w' ⟨rfl, rfl⟩))
 rw [← HW1.out]
 clear HW1 hc0 hi0 hi1
 go_loopw [22] (fun i wr => ∃ k : Nat, k ≤ 4 ∧ i = .int .i64 k ∧ (∀ j, j < k → s ≠ textC (fourC.getD j 0)) ∧ Below w1.heap.size w1 wr) (fun i _ => 4 - (intOf i).toNat)
 case atStart => exact ⟨0, by omega, rfl, fun j h => by omega, Below.refl _ _⟩
 case round =>
  obtain ⟨k, hk, rfl, hno, hbr⟩ := hrel
  by_cases hlt : k < 4
  ·have hlt' : (k : Int) < 4 := by omega
   have hix := index_floats w.heap.size 4 4 k hlt
   have hce := four_cell (hr1.later hbr hr1.lt) k hlt
   have htk := Lib.hid (htx.out k hlt wr)
   have he := bstr_beq s (textC (fourC.getD k 0))
   by_cases heq : s = textC (fourC.getD k 0)
   ·have HX := Lib.hid (HF.out k hlt heq)
    rw [decide_eq_true heq] at he
    clear hno heq
    generalize textC (fourC.getD k 0) = T at *
    generalize fourC.getD k 0 = q at *
    go_wp2_with (go_at_call 97; refine htk.out.mono ?_; rintro e w2 ⟨rfl, hb2⟩)
    go_ret2
    exact ⟨by rw [HX.out]; rfl, (hb1.trans (hbr.mono hb1.size)).trans (hb2.mono (Nat.le_trans hb1.size hbr.size))⟩
   ·have HNO := Lib.hid (show ∀ j, j < k + 1 → s ≠ textC (fourC.getD j 0) from fun j hj => by
     rcases Nat.lt_or_eq_of_le (Nat.le_of_lt_succ hj) with h | h
     ·exact hno j h
     ·rw [h]; exact heq)
    rw [decide_eq_false heq] at he
    clear hno heq
    generalize textC (fourC.getD k 0) = T at *
    generalize fourC.getD k 0 = q at *
    go_wp2_with (go_at_call 97; refine htk.out.mono ?_; rintro e w2 ⟨rfl, hb2⟩)
    go_roundw
    case rel => exact ⟨k + 1, by omega, by go_num, HNO.out, hbr.trans (hb2.mono hbr.size)⟩
    case measure => simp [intOf]; omega
  ·obtain rfl : k = 4 := by omega
   have hBw : Below w.heap.size w wr := hb1.trans (hbr.mono hb1.size)
   clear hbr hr1 hb1 htx HF
   by_cases hsg : s.getD 0 0 = 45
   ·obtain ⟨R, hR⟩ : ∃ R, s = 45 :: R := by
     cases s with
     | nil => exact absurd hsg (by decide)
     | cons c r => exact ⟨r, by rw [show c = 45 from hsg]⟩
    have HMg := Lib.hid (HN.out R hR hno)
    have hsl : s.length = R.length + 1 := by rw [hR]; rfl
    have hlp : (0 : Int) < (s.length : Int) := by omega
    have hix : ∀ w', (Instr.index 9 (.string (bstr s)) (.int .i64 0)).run Tryz.prog w' = .ok (.int .u8 45) w' := by
     have h := fun w' => index_bstr s 0 (by omega) w'
     rw [hsg] at h; exact h
    have hex : (bstr s).extract 1 s.length = bstr R := by rw [hR]; exact tail_bstr' 45 R _ rfl
    have hzR := size_bstr R
    have hRl : R.length ≤ 1000 := by omega
    have hsl1 : (1 : Int) ≤ (s.length : Int) := by omega
    clear hno HS HN hsg hR hsl hs
    generalize bstr s = P at *
    generalize s.length = sl at *
    go_wp2
    go_loop [8] (fun i => ∃ k : Nat, k ≤ R.length ∧ i = .int .i64 k ∧ ∀ j, j < k → R.getD j 0 ≠ 112) (fun i => R.length - (intOf i).toNat)
    case atStart => exact ⟨0, by omega, rfl, fun j h => by omega⟩
    case round =>
     obtain ⟨k, hk, rfl, hno⟩ := hrel
     by_cases hlt : k < R.length
     ·have hlt' : (k : Int) < (R.length : Int) := by omega
      have hix := index_bstr R k hlt
      by_cases hc : R.getD k 0 = 112
      ·have hix2 : ∀ w', (Instr.index 9 (.string (bstr R)) (.int .i64 k)).run Tryz.prog w' = .ok (.int .u8 112) w' := by rw [hc] at hix; exact hix
       have HC := Lib.hid (cutP_hit R k hlt hc hno)
       have hwk : IntKind.i64.wrap ((k : Int) + 1) = (k : Int) + 1 := by rw [IntKind.wrap_i64]; omega
       have hk1 : (k : Int) + 1 ≤ (R.length : Int) := by omega
       have hk0 : (k : Int) ≤ (R.length : Int) := by omega
       have hx1 : (bstr R).extract (k + 1) R.length = bstr (R.drop (k + 1)) := by rw [extract_bstr12, List.take_of_length_le (by rw [List.length_drop]; omega)]
       have hx2 : (bstr R).extract 0 k = bstr (R.take k) := by rw [extract_bstr12, List.drop_zero]; rfl
       have ht : (R.take k).length ≤ 1000 := by rw [List.length_take]; omega
       have hU : (R.drop (k + 1)).length ≤ 1000 := by rw [List.length_drop]; omega
       have hzu := size_bstr (R.drop (k + 1))
       generalize R.take k = t at *
       generalize R.drop (k + 1) = u at *
       clear hix hc hno
       by_cases ua : u.length ≤ 1
       ·obtain ⟨O1, hO1⟩ : ∃ O1, O1 = valueL 10 16 t := ⟨_, rfl⟩
        obtain ⟨O2, hO2⟩ : ∃ O2, O2 = valueL 10 4 u := ⟨_, rfl⟩
        have ua1 : decide ((1 : Int) < (u.length : Int)) = false := decide_eq_false (by omega)
        have HJ := Lib.hid (show V = Option.map (fun x => 2 ^ 63 + x) (joinC O1 O2 (fun n => (n : Int))) by rw [HMg.out, join_keep R t u HC.out (.inr (.inl ua)), ← hO1, ← hO2])
        clear ua HC HMg
        have hd1 : ∀ w', Calls Tryz.prog 98 #[.string (bstr t), .int .i64 16] w' fun e w'' => ∃ n : Nat, e = .returned (.tuple #[.int .u64 (n : Int), .bool O1.isSome]) ∧ n < 10 ^ 16 ∧ (∀ v, O1 = some v → n = v) ∧ Below w'.heap.size w' w'' := by
         intro w'; rw [hO1]; exact fdigits_any t ht 16 (by omega) w'
        have hd2 : ∀ w', Calls Tryz.prog 98 #[.string (bstr u), .int .i64 4] w' fun e w'' => ∃ n : Nat, e = .returned (.tuple #[.int .u64 (n : Int), .bool O2.isSome]) ∧ n < 10 ^ 4 ∧ (∀ v, O2 = some v → n = v) ∧ Below w'.heap.size w' w'' := by
         intro w'; rw [hO2]; exact fdigits_any u hU 4 (by omega) w'
        have Hd1 := Lib.hid hd1
        have Hd2 := Lib.hid hd2
        have tokd : True := trivial
        clear hd1 hd2 hO1 hO2 ht hU
        go_wp2_with (first
         | (go_at_call 98; have _t := tokd; refine (Hd1.out _).mono ?_; rintro e w3 ⟨n1, rfl, hn1, hv1, hb3⟩; clear tokd)
         | (go_at_call 98; refine (Hd2.out _).mono ?_; rintro e w4 ⟨n2, rfl, hn2, hv2, hb4⟩; refine Hid.out ?_))
        refine Lib.hid ?_
        have hB4 : Below w.heap.size w w4 := (hBw.trans (hb3.mono hBw.size)).trans (hb4.mono (Nat.le_trans hBw.size hb3.size))
        have hw1 : IntKind.i64.wrap (n2 : Int) = (n2 : Int) := by rw [IntKind.wrap_i64]; omega
        have hw2 : IntKind.i64.wrap (-(n2 : Int)) = -(n2 : Int) := by rw [IntKind.wrap_i64]; omega
        have hof := Lib.hid (fof_any n1 ((n2 : Int)) (by omega) (by omega) (by omega) w4)
        clear Hd1 Hd2 hn1 hn2
        cases O1 with
        | none =>
         have HX := Lib.hid (show V = none by rw [HJ.out, join_none1]; rfl)
         clear HJ hv1 hv2
         go_wp2_with (go_at_call 99; refine hof.out.mono ?_; rintro e w' ⟨rfl, rfl⟩)
         go_ret2
         exact ⟨by rw [HX.out]; rfl, hB4⟩
        | some m =>
         obtain rfl := hv1 m rfl
         cases O2 with
         | none =>
          have HX := Lib.hid (show V = none by rw [HJ.out, join_none2]; rfl)
          clear HJ hv1 hv2
          go_wp2_with (go_at_call 99; refine hof.out.mono ?_; rintro e w' ⟨rfl, rfl⟩)
          go_ret2
          exact ⟨by rw [HX.out]; rfl, hB4⟩
         | some n =>
          obtain rfl := hv2 n rfl
          cases h3 : ofC n1 ((n2 : Int)) with
          | none =>
           have HX := Lib.hid (show V = none by rw [HJ.out]; show Option.map (fun x => 2 ^ 63 + x) (ofC n1 ((n2 : Int))) = none; rw [h3]; rfl)
           rw [h3] at hof
           clear HJ hv1 hv2 h3
           go_wp2_with (go_at_call 99; refine hof.out.mono ?_; rintro e w' ⟨rfl, rfl⟩)
           go_ret2
           exact ⟨by rw [HX.out]; rfl, hB4⟩
          | some a =>
           have HX := Lib.hid (show V = some (2 ^ 63 + a) by rw [HJ.out]; show Option.map (fun x => 2 ^ 63 + x) (ofC n1 ((n2 : Int))) = _; rw [h3]; rfl)
           have hfin := ofC_fin _ _ _ h3
           have hmul := fun w' => run_float_arith (P := Tryz.prog) w' .mul 29 .f64 13830554455654793216 a (2 ^ 63 + a) (mul_minus_bits a hfin)
           rw [h3] at hof
           clear HJ hv1 hv2 h3
           go_wp2_with (go_at_call 99; refine hof.out.mono ?_; rintro e w' ⟨rfl, rfl⟩)
           go_ret2
           exact ⟨by rw [HX.out]; rfl, hB4⟩
       ·have ua1 : (1 : Int) < (u.length : Int) := by omega
        have hux : ∀ w', (Instr.index 9 (.string (bstr u)) (.int .i64 0)).run Tryz.prog w' = .ok (.int .u8 ((u.getD 0 0).toNat : Int)) w' := fun w' => index_bstr u 0 (by omega) w'
        by_cases ub : u.getD 0 0 = 45
        ·rw [ub] at hux
         have hux : ∀ w', (Instr.index 9 (.string (bstr u)) (.int .i64 0)).run Tryz.prog w' = .ok (.int .u8 45) w' := hux
         have e48 := bstr_is15 u [45, 48]
         by_cases uc : u = [45, 48]
         ·obtain ⟨O1, hO1⟩ : ∃ O1, O1 = valueL 10 16 t := ⟨_, rfl⟩
          obtain ⟨O2, hO2⟩ : ∃ O2, O2 = valueL 10 4 u := ⟨_, rfl⟩
          rw [decide_eq_true uc] at e48
          have HJ := Lib.hid (show V = Option.map (fun x => 2 ^ 63 + x) (joinC O1 O2 (fun n => (n : Int))) by rw [HMg.out, join_keep R t u HC.out (.inr (.inr uc)), ← hO1, ← hO2])
          clear ua ub uc HC HMg
          have hd1 : ∀ w', Calls Tryz.prog 98 #[.string (bstr t), .int .i64 16] w' fun e w'' => ∃ n : Nat, e = .returned (.tuple #[.int .u64 (n : Int), .bool O1.isSome]) ∧ n < 10 ^ 16 ∧ (∀ v, O1 = some v → n = v) ∧ Below w'.heap.size w' w'' := by
           intro w'; rw [hO1]; exact fdigits_any t ht 16 (by omega) w'
          have hd2 : ∀ w', Calls Tryz.prog 98 #[.string (bstr u), .int .i64 4] w' fun e w'' => ∃ n : Nat, e = .returned (.tuple #[.int .u64 (n : Int), .bool O2.isSome]) ∧ n < 10 ^ 4 ∧ (∀ v, O2 = some v → n = v) ∧ Below w'.heap.size w' w'' := by
           intro w'; rw [hO2]; exact fdigits_any u hU 4 (by omega) w'
          have Hd1 := Lib.hid hd1
          have Hd2 := Lib.hid hd2
          have tokd : True := trivial
          clear hd1 hd2 hO1 hO2 ht hU
          go_wp2_with (first
           | (go_at_call 98; have _t := tokd; refine (Hd1.out _).mono ?_; rintro e w3 ⟨n1, rfl, hn1, hv1, hb3⟩; clear tokd)
           | (go_at_call 98; refine (Hd2.out _).mono ?_; rintro e w4 ⟨n2, rfl, hn2, hv2, hb4⟩; refine Hid.out ?_))
          refine Lib.hid ?_
          have hB4 : Below w.heap.size w w4 := (hBw.trans (hb3.mono hBw.size)).trans (hb4.mono (Nat.le_trans hBw.size hb3.size))
          have hw1 : IntKind.i64.wrap (n2 : Int) = (n2 : Int) := by rw [IntKind.wrap_i64]; omega
          have hw2 : IntKind.i64.wrap (-(n2 : Int)) = -(n2 : Int) := by rw [IntKind.wrap_i64]; omega
          have hof := Lib.hid (fof_any n1 ((n2 : Int)) (by omega) (by omega) (by omega) w4)
          clear Hd1 Hd2 hn1 hn2
          cases O1 with
          | none =>
           have HX := Lib.hid (show V = none by rw [HJ.out, join_none1]; rfl)
           clear HJ hv1 hv2
           go_wp2_with (go_at_call 99; refine hof.out.mono ?_; rintro e w' ⟨rfl, rfl⟩)
           go_ret2
           exact ⟨by rw [HX.out]; rfl, hB4⟩
          | some m =>
           obtain rfl := hv1 m rfl
           cases O2 with
           | none =>
            have HX := Lib.hid (show V = none by rw [HJ.out, join_none2]; rfl)
            clear HJ hv1 hv2
            go_wp2_with (go_at_call 99; refine hof.out.mono ?_; rintro e w' ⟨rfl, rfl⟩)
            go_ret2
            exact ⟨by rw [HX.out]; rfl, hB4⟩
           | some n =>
            obtain rfl := hv2 n rfl
            cases h3 : ofC n1 ((n2 : Int)) with
            | none =>
             have HX := Lib.hid (show V = none by rw [HJ.out]; show Option.map (fun x => 2 ^ 63 + x) (ofC n1 ((n2 : Int))) = none; rw [h3]; rfl)
             rw [h3] at hof
             clear HJ hv1 hv2 h3
             go_wp2_with (go_at_call 99; refine hof.out.mono ?_; rintro e w' ⟨rfl, rfl⟩)
             go_ret2
             exact ⟨by rw [HX.out]; rfl, hB4⟩
            | some a =>
             have HX := Lib.hid (show V = some (2 ^ 63 + a) by rw [HJ.out]; show Option.map (fun x => 2 ^ 63 + x) (ofC n1 ((n2 : Int))) = _; rw [h3]; rfl)
             have hfin := ofC_fin _ _ _ h3
             have hmul := fun w' => run_float_arith (P := Tryz.prog) w' .mul 29 .f64 13830554455654793216 a (2 ^ 63 + a) (mul_minus_bits a hfin)
             rw [h3] at hof
             clear HJ hv1 hv2 h3
             go_wp2_with (go_at_call 99; refine hof.out.mono ?_; rintro e w' ⟨rfl, rfl⟩)
             go_ret2
             exact ⟨by rw [HX.out]; rfl, hB4⟩
         ·rw [decide_eq_false uc] at e48
          obtain ⟨r2, hr2⟩ : ∃ r2, u = 45 :: r2 := by
           cases u with
           | nil => exact absurd ub (by decide)
           | cons c r => exact ⟨r, by rw [show c = 45 from ub]⟩
          have hr3 : ¬ (r2 = [] ∨ r2 = [48]) := by
           rintro (h | h)
           ·rw [hr2, h] at ua; exact ua (Nat.le_refl _)
           ·exact uc (by rw [hr2, h])
          have hul : u.length = r2.length + 1 := by rw [hr2]; rfl
          have hux2 : (bstr u).extract 1 u.length = bstr r2 := by rw [hr2]; exact tail_bstr' 45 r2 _ rfl
          have HC2 := Lib.hid (show cutP R = some (t, 45 :: r2) by rw [← hr2]; exact HC.out)
          have hU2 : r2.length ≤ 1000 := by omega
          obtain ⟨O1, hO1⟩ : ∃ O1, O1 = valueL 10 16 t := ⟨_, rfl⟩
          obtain ⟨O2, hO2⟩ : ∃ O2, O2 = valueL 10 4 r2 := ⟨_, rfl⟩
          have HJ := Lib.hid (show V = Option.map (fun x => 2 ^ 63 + x) (joinC O1 O2 (fun n => -(n : Int))) by rw [HMg.out, join_strip R t r2 HC2.out hr3, ← hO1, ← hO2])
          clear ua ub uc HC HC2 HMg hr2 hr3 hul hU
          have hU := hU2
          clear hU2
          have hd1 : ∀ w', Calls Tryz.prog 98 #[.string (bstr t), .int .i64 16] w' fun e w'' => ∃ n : Nat, e = .returned (.tuple #[.int .u64 (n : Int), .bool O1.isSome]) ∧ n < 10 ^ 16 ∧ (∀ v, O1 = some v → n = v) ∧ Below w'.heap.size w' w'' := by
           intro w'; rw [hO1]; exact fdigits_any t ht 16 (by omega) w'
          have hd2 : ∀ w', Calls Tryz.prog 98 #[.string (bstr r2), .int .i64 4] w' fun e w'' => ∃ n : Nat, e = .returned (.tuple #[.int .u64 (n : Int), .bool O2.isSome]) ∧ n < 10 ^ 4 ∧ (∀ v, O2 = some v → n = v) ∧ Below w'.heap.size w' w'' := by
           intro w'; rw [hO2]; exact fdigits_any r2 hU 4 (by omega) w'
          have Hd1 := Lib.hid hd1
          have Hd2 := Lib.hid hd2
          have tokd : True := trivial
          clear hd1 hd2 hO1 hO2 ht hU
          go_wp2_with (first
           | (go_at_call 98; have _t := tokd; refine (Hd1.out _).mono ?_; rintro e w3 ⟨n1, rfl, hn1, hv1, hb3⟩; clear tokd)
           | (go_at_call 98; refine (Hd2.out _).mono ?_; rintro e w4 ⟨n2, rfl, hn2, hv2, hb4⟩; refine Hid.out ?_))
          refine Lib.hid ?_
          have hB4 : Below w.heap.size w w4 := (hBw.trans (hb3.mono hBw.size)).trans (hb4.mono (Nat.le_trans hBw.size hb3.size))
          have hw1 : IntKind.i64.wrap (n2 : Int) = (n2 : Int) := by rw [IntKind.wrap_i64]; omega
          have hw2 : IntKind.i64.wrap (-(n2 : Int)) = -(n2 : Int) := by rw [IntKind.wrap_i64]; omega
          have hof := Lib.hid (fof_any n1 (-(n2 : Int)) (by omega) (by omega) (by omega) w4)
          clear Hd1 Hd2 hn1 hn2
          cases O1 with
          | none =>
           have HX := Lib.hid (show V = none by rw [HJ.out, join_none1]; rfl)
           clear HJ hv1 hv2
           go_wp2_with (go_at_call 99; refine hof.out.mono ?_; rintro e w' ⟨rfl, rfl⟩)
           go_ret2
           exact ⟨by rw [HX.out]; rfl, hB4⟩
          | some m =>
           obtain rfl := hv1 m rfl
           cases O2 with
           | none =>
            have HX := Lib.hid (show V = none by rw [HJ.out, join_none2]; rfl)
            clear HJ hv1 hv2
            go_wp2_with (go_at_call 99; refine hof.out.mono ?_; rintro e w' ⟨rfl, rfl⟩)
            go_ret2
            exact ⟨by rw [HX.out]; rfl, hB4⟩
           | some n =>
            obtain rfl := hv2 n rfl
            cases h3 : ofC n1 (-(n2 : Int)) with
            | none =>
             have HX := Lib.hid (show V = none by rw [HJ.out]; show Option.map (fun x => 2 ^ 63 + x) (ofC n1 (-(n2 : Int))) = none; rw [h3]; rfl)
             rw [h3] at hof
             clear HJ hv1 hv2 h3
             go_wp2_with (go_at_call 99; refine hof.out.mono ?_; rintro e w' ⟨rfl, rfl⟩)
             go_ret2
             exact ⟨by rw [HX.out]; rfl, hB4⟩
            | some a =>
             have HX := Lib.hid (show V = some (2 ^ 63 + a) by rw [HJ.out]; show Option.map (fun x => 2 ^ 63 + x) (ofC n1 (-(n2 : Int))) = _; rw [h3]; rfl)
             have hfin := ofC_fin _ _ _ h3
             have hmul := fun w' => run_float_arith (P := Tryz.prog) w' .mul 29 .f64 13830554455654793216 a (2 ^ 63 + a) (mul_minus_bits a hfin)
             rw [h3] at hof
             clear HJ hv1 hv2 h3
             go_wp2_with (go_at_call 99; refine hof.out.mono ?_; rintro e w' ⟨rfl, rfl⟩)
             go_ret2
             exact ⟨by rw [HX.out]; rfl, hB4⟩
        ·have uy : (((u.getD 0 0).toNat : Int) == 45) = false := by
          rw [beq_eq_false_iff_ne]
          intro h
          exact ub (UInt8.toNat_inj.1 (by rw [show (45 : UInt8).toNat = 45 from rfl]; omega))
         obtain ⟨O1, hO1⟩ : ∃ O1, O1 = valueL 10 16 t := ⟨_, rfl⟩
         obtain ⟨O2, hO2⟩ : ∃ O2, O2 = valueL 10 4 u := ⟨_, rfl⟩
         have HJ := Lib.hid (show V = Option.map (fun x => 2 ^ 63 + x) (joinC O1 O2 (fun n => (n : Int))) by rw [HMg.out, join_keep R t u HC.out (.inl ub), ← hO1, ← hO2])
         generalize u.getD 0 0 = y at *
         clear ua ub HC HMg
         have hd1 : ∀ w', Calls Tryz.prog 98 #[.string (bstr t), .int .i64 16] w' fun e w'' => ∃ n : Nat, e = .returned (.tuple #[.int .u64 (n : Int), .bool O1.isSome]) ∧ n < 10 ^ 16 ∧ (∀ v, O1 = some v → n = v) ∧ Below w'.heap.size w' w'' := by
          intro w'; rw [hO1]; exact fdigits_any t ht 16 (by omega) w'
         have hd2 : ∀ w', Calls Tryz.prog 98 #[.string (bstr u), .int .i64 4] w' fun e w'' => ∃ n : Nat, e = .returned (.tuple #[.int .u64 (n : Int), .bool O2.isSome]) ∧ n < 10 ^ 4 ∧ (∀ v, O2 = some v → n = v) ∧ Below w'.heap.size w' w'' := by
          intro w'; rw [hO2]; exact fdigits_any u hU 4 (by omega) w'
         have Hd1 := Lib.hid hd1
         have Hd2 := Lib.hid hd2
         have tokd : True := trivial
         clear hd1 hd2 hO1 hO2 ht hU
         go_wp2_with (first
          | (go_at_call 98; have _t := tokd; refine (Hd1.out _).mono ?_; rintro e w3 ⟨n1, rfl, hn1, hv1, hb3⟩; clear tokd)
          | (go_at_call 98; refine (Hd2.out _).mono ?_; rintro e w4 ⟨n2, rfl, hn2, hv2, hb4⟩; refine Hid.out ?_))
         refine Lib.hid ?_
         have hB4 : Below w.heap.size w w4 := (hBw.trans (hb3.mono hBw.size)).trans (hb4.mono (Nat.le_trans hBw.size hb3.size))
         have hw1 : IntKind.i64.wrap (n2 : Int) = (n2 : Int) := by rw [IntKind.wrap_i64]; omega
         have hw2 : IntKind.i64.wrap (-(n2 : Int)) = -(n2 : Int) := by rw [IntKind.wrap_i64]; omega
         have hof := Lib.hid (fof_any n1 ((n2 : Int)) (by omega) (by omega) (by omega) w4)
         clear Hd1 Hd2 hn1 hn2
         cases O1 with
         | none =>
          have HX := Lib.hid (show V = none by rw [HJ.out, join_none1]; rfl)
          clear HJ hv1 hv2
          go_wp2_with (go_at_call 99; refine hof.out.mono ?_; rintro e w' ⟨rfl, rfl⟩)
          go_ret2
          exact ⟨by rw [HX.out]; rfl, hB4⟩
         | some m =>
          obtain rfl := hv1 m rfl
          cases O2 with
          | none =>
           have HX := Lib.hid (show V = none by rw [HJ.out, join_none2]; rfl)
           clear HJ hv1 hv2
           go_wp2_with (go_at_call 99; refine hof.out.mono ?_; rintro e w' ⟨rfl, rfl⟩)
           go_ret2
           exact ⟨by rw [HX.out]; rfl, hB4⟩
          | some n =>
           obtain rfl := hv2 n rfl
           cases h3 : ofC n1 ((n2 : Int)) with
           | none =>
            have HX := Lib.hid (show V = none by rw [HJ.out]; show Option.map (fun x => 2 ^ 63 + x) (ofC n1 ((n2 : Int))) = none; rw [h3]; rfl)
            rw [h3] at hof
            clear HJ hv1 hv2 h3
            go_wp2_with (go_at_call 99; refine hof.out.mono ?_; rintro e w' ⟨rfl, rfl⟩)
            go_ret2
            exact ⟨by rw [HX.out]; rfl, hB4⟩
           | some a =>
            have HX := Lib.hid (show V = some (2 ^ 63 + a) by rw [HJ.out]; show Option.map (fun x => 2 ^ 63 + x) (ofC n1 ((n2 : Int))) = _; rw [h3]; rfl)
            have hfin := ofC_fin _ _ _ h3
            have hmul := fun w' => run_float_arith (P := Tryz.prog) w' .mul 29 .f64 13830554455654793216 a (2 ^ 63 + a) (mul_minus_bits a hfin)
            rw [h3] at hof
            clear HJ hv1 hv2 h3
            go_wp2_with (go_at_call 99; refine hof.out.mono ?_; rintro e w' ⟨rfl, rfl⟩)
            go_ret2
            exact ⟨by rw [HX.out]; rfl, hB4⟩
      ·have hb : (((R.getD k 0).toNat : Int) != 112) = true := by
        rw [bne_iff_ne]
        intro h
        exact hc (UInt8.toNat_inj.1 (by rw [show (112 : UInt8).toNat = 112 from rfl]; omega))
       have HNO := Lib.hid (show ∀ j, j < k + 1 → R.getD j 0 ≠ 112 from fun j hj => by
        rcases Nat.lt_or_eq_of_le (Nat.le_of_lt_succ hj) with h | h
        ·exact hno j h
        ·rw [h]; exact hc)
       generalize R.getD k 0 = y at *
       clear hno hc
       go_wp2
       go_round
       case rel => exact ⟨k + 1, by omega, by go_num, HNO.out⟩
       case measure => simp [intOf]; omega
     ·obtain rfl : k = R.length := by omega
      have HX := Lib.hid (show V = none by rw [HMg.out, magP_miss R (cutP_miss R hno)]; rfl)
      clear hno HMg
      go_wp2
      go_ret2
      exact ⟨by rw [HX.out]; rfl, hBw⟩
   ·have HMg := Lib.hid (HS.out hno hsg)
    clear hno HS HN
    obtain ⟨R, hR⟩ : ∃ R, R = s := ⟨_, rfl⟩
    subst hR
    have hRl : R.length ≤ 1000 := hs
    have hzR := hz
    by_cases hl0 : R.length = 0
    ·have hlp : ((R.length : Nat) : Int) = 0 := by omega
     have HX := Lib.hid (show V = none by rw [HMg.out, List.length_eq_zero_iff.1 hl0]; rfl)
     clear HMg hsg hl0
     go_wp2
     go_loop [8] (fun i => i = .int .i64 0) (fun _ => 0)
     case atStart => rfl
     case round =>
      subst hrel
      go_wp2
      go_ret2
      exact ⟨by rw [HX.out]; rfl, hBw⟩
    ·have hlp : (0 : Int) < (R.length : Int) := by omega
     have hix : ∀ w', (Instr.index 9 (.string (bstr R)) (.int .i64 0)).run Tryz.prog w' = .ok (.int .u8 ((R.getD 0 0).toNat : Int)) w' := fun w' => index_bstr R 0 (by omega) w'
     have hy : (((R.getD 0 0).toNat : Int) == 45) = false := by
      rw [beq_eq_false_iff_ne]
      intro h
      exact hsg (UInt8.toNat_inj.1 (by rw [show (45 : UInt8).toNat = 45 from rfl]; omega))
     generalize R.getD 0 0 = y at *
     clear hsg hl0
     go_wp2
     clear hix hy
     go_loop [8] (fun i => ∃ k : Nat, k ≤ R.length ∧ i = .int .i64 k ∧ ∀ j, j < k → R.getD j 0 ≠ 112) (fun i => R.length - (intOf i).toNat)
     case atStart => exact ⟨0, by omega, rfl, fun j h => by omega⟩
     case round =>
      obtain ⟨k, hk, rfl, hno⟩ := hrel
      by_cases hlt : k < R.length
      ·have hlt' : (k : Int) < (R.length : Int) := by omega
       have hix := index_bstr R k hlt
       by_cases hc : R.getD k 0 = 112
       ·have hix2 : ∀ w', (Instr.index 9 (.string (bstr R)) (.int .i64 k)).run Tryz.prog w' = .ok (.int .u8 112) w' := by rw [hc] at hix; exact hix
        have HC := Lib.hid (cutP_hit R k hlt hc hno)
        have hwk : IntKind.i64.wrap ((k : Int) + 1) = (k : Int) + 1 := by rw [IntKind.wrap_i64]; omega
        have hk1 : (k : Int) + 1 ≤ (R.length : Int) := by omega
        have hk0 : (k : Int) ≤ (R.length : Int) := by omega
        have hx1 : (bstr R).extract (k + 1) R.length = bstr (R.drop (k + 1)) := by rw [extract_bstr12, List.take_of_length_le (by rw [List.length_drop]; omega)]
        have hx2 : (bstr R).extract 0 k = bstr (R.take k) := by rw [extract_bstr12, List.drop_zero]; rfl
        have ht : (R.take k).length ≤ 1000 := by rw [List.length_take]; omega
        have hU : (R.drop (k + 1)).length ≤ 1000 := by rw [List.length_drop]; omega
        have hzu := size_bstr (R.drop (k + 1))
        generalize R.take k = t at *
        generalize R.drop (k + 1) = u at *
        clear hix hc hno
        by_cases ua : u.length ≤ 1
        ·obtain ⟨O1, hO1⟩ : ∃ O1, O1 = valueL 10 16 t := ⟨_, rfl⟩
         obtain ⟨O2, hO2⟩ : ∃ O2, O2 = valueL 10 4 u := ⟨_, rfl⟩
         have ua1 : decide ((1 : Int) < (u.length : Int)) = false := decide_eq_false (by omega)
         have HJ := Lib.hid (show V = joinC O1 O2 (fun n => (n : Int)) by rw [HMg.out, join_keep R t u HC.out (.inr (.inl ua)), ← hO1, ← hO2])
         clear ua HC HMg
         have hd1 : ∀ w', Calls Tryz.prog 98 #[.string (bstr t), .int .i64 16] w' fun e w'' => ∃ n : Nat, e = .returned (.tuple #[.int .u64 (n : Int), .bool O1.isSome]) ∧ n < 10 ^ 16 ∧ (∀ v, O1 = some v → n = v) ∧ Below w'.heap.size w' w'' := by
          intro w'; rw [hO1]; exact fdigits_any t ht 16 (by omega) w'
         have hd2 : ∀ w', Calls Tryz.prog 98 #[.string (bstr u), .int .i64 4] w' fun e w'' => ∃ n : Nat, e = .returned (.tuple #[.int .u64 (n : Int), .bool O2.isSome]) ∧ n < 10 ^ 4 ∧ (∀ v, O2 = some v → n = v) ∧ Below w'.heap.size w' w'' := by
          intro w'; rw [hO2]; exact fdigits_any u hU 4 (by omega) w'
         have Hd1 := Lib.hid hd1
         have Hd2 := Lib.hid hd2
         have tokd : True := trivial
         clear hd1 hd2 hO1 hO2 ht hU
         go_wp2_with (first
          | (go_at_call 98; have _t := tokd; refine (Hd1.out _).mono ?_; rintro e w3 ⟨n1, rfl, hn1, hv1, hb3⟩; clear tokd)
          | (go_at_call 98; refine (Hd2.out _).mono ?_; rintro e w4 ⟨n2, rfl, hn2, hv2, hb4⟩; refine Hid.out ?_))
         refine Lib.hid ?_
         have hB4 : Below w.heap.size w w4 := (hBw.trans (hb3.mono hBw.size)).trans (hb4.mono (Nat.le_trans hBw.size hb3.size))
         have hw1 : IntKind.i64.wrap (n2 : Int) = (n2 : Int) := by rw [IntKind.wrap_i64]; omega
         have hw2 : IntKind.i64.wrap (-(n2 : Int)) = -(n2 : Int) := by rw [IntKind.wrap_i64]; omega
         have hof := Lib.hid (fof_any n1 ((n2 : Int)) (by omega) (by omega) (by omega) w4)
         clear Hd1 Hd2 hn1 hn2
         cases O1 with
         | none =>
          have HX := Lib.hid (show V = none by rw [HJ.out, join_none1])
          clear HJ hv1 hv2
          go_wp2_with (go_at_call 99; refine hof.out.mono ?_; rintro e w' ⟨rfl, rfl⟩)
          go_ret2
          exact ⟨by rw [HX.out]; rfl, hB4⟩
         | some m =>
          obtain rfl := hv1 m rfl
          cases O2 with
          | none =>
           have HX := Lib.hid (show V = none by rw [HJ.out, join_none2])
           clear HJ hv1 hv2
           go_wp2_with (go_at_call 99; refine hof.out.mono ?_; rintro e w' ⟨rfl, rfl⟩)
           go_ret2
           exact ⟨by rw [HX.out]; rfl, hB4⟩
          | some n =>
           obtain rfl := hv2 n rfl
           cases h3 : ofC n1 ((n2 : Int)) with
           | none =>
            have HX := Lib.hid (show V = none by rw [HJ.out]; show (ofC n1 ((n2 : Int))) = none; rw [h3])
            rw [h3] at hof
            clear HJ hv1 hv2 h3
            go_wp2_with (go_at_call 99; refine hof.out.mono ?_; rintro e w' ⟨rfl, rfl⟩)
            go_ret2
            exact ⟨by rw [HX.out]; rfl, hB4⟩
           | some a =>
            have HX := Lib.hid (show V = some (a) by rw [HJ.out]; show (ofC n1 ((n2 : Int))) = _; rw [h3])
            have hfin := ofC_fin _ _ _ h3
            have hmul := fun w' => run_float_arith (P := Tryz.prog) w' .mul 29 .f64 4607182418800017408 a (a) (mul_one_bits a hfin)
            rw [h3] at hof
            clear HJ hv1 hv2 h3
            go_wp2_with (go_at_call 99; refine hof.out.mono ?_; rintro e w' ⟨rfl, rfl⟩)
            go_ret2
            exact ⟨by rw [HX.out]; rfl, hB4⟩
        ·have ua1 : (1 : Int) < (u.length : Int) := by omega
         have hux : ∀ w', (Instr.index 9 (.string (bstr u)) (.int .i64 0)).run Tryz.prog w' = .ok (.int .u8 ((u.getD 0 0).toNat : Int)) w' := fun w' => index_bstr u 0 (by omega) w'
         by_cases ub : u.getD 0 0 = 45
         ·rw [ub] at hux
          have hux : ∀ w', (Instr.index 9 (.string (bstr u)) (.int .i64 0)).run Tryz.prog w' = .ok (.int .u8 45) w' := hux
          have e48 := bstr_is15 u [45, 48]
          by_cases uc : u = [45, 48]
          ·obtain ⟨O1, hO1⟩ : ∃ O1, O1 = valueL 10 16 t := ⟨_, rfl⟩
           obtain ⟨O2, hO2⟩ : ∃ O2, O2 = valueL 10 4 u := ⟨_, rfl⟩
           rw [decide_eq_true uc] at e48
           have HJ := Lib.hid (show V = joinC O1 O2 (fun n => (n : Int)) by rw [HMg.out, join_keep R t u HC.out (.inr (.inr uc)), ← hO1, ← hO2])
           clear ua ub uc HC HMg
           have hd1 : ∀ w', Calls Tryz.prog 98 #[.string (bstr t), .int .i64 16] w' fun e w'' => ∃ n : Nat, e = .returned (.tuple #[.int .u64 (n : Int), .bool O1.isSome]) ∧ n < 10 ^ 16 ∧ (∀ v, O1 = some v → n = v) ∧ Below w'.heap.size w' w'' := by
            intro w'; rw [hO1]; exact fdigits_any t ht 16 (by omega) w'
           have hd2 : ∀ w', Calls Tryz.prog 98 #[.string (bstr u), .int .i64 4] w' fun e w'' => ∃ n : Nat, e = .returned (.tuple #[.int .u64 (n : Int), .bool O2.isSome]) ∧ n < 10 ^ 4 ∧ (∀ v, O2 = some v → n = v) ∧ Below w'.heap.size w' w'' := by
            intro w'; rw [hO2]; exact fdigits_any u hU 4 (by omega) w'
           have Hd1 := Lib.hid hd1
           have Hd2 := Lib.hid hd2
           have tokd : True := trivial
           clear hd1 hd2 hO1 hO2 ht hU
           go_wp2_with (first
            | (go_at_call 98; have _t := tokd; refine (Hd1.out _).mono ?_; rintro e w3 ⟨n1, rfl, hn1, hv1, hb3⟩; clear tokd)
            | (go_at_call 98; refine (Hd2.out _).mono ?_; rintro e w4 ⟨n2, rfl, hn2, hv2, hb4⟩; refine Hid.out ?_))
           refine Lib.hid ?_
           have hB4 : Below w.heap.size w w4 := (hBw.trans (hb3.mono hBw.size)).trans (hb4.mono (Nat.le_trans hBw.size hb3.size))
           have hw1 : IntKind.i64.wrap (n2 : Int) = (n2 : Int) := by rw [IntKind.wrap_i64]; omega
           have hw2 : IntKind.i64.wrap (-(n2 : Int)) = -(n2 : Int) := by rw [IntKind.wrap_i64]; omega
           have hof := Lib.hid (fof_any n1 ((n2 : Int)) (by omega) (by omega) (by omega) w4)
           clear Hd1 Hd2 hn1 hn2
           cases O1 with
           | none =>
            have HX := Lib.hid (show V = none by rw [HJ.out, join_none1])
            clear HJ hv1 hv2
            go_wp2_with (go_at_call 99; refine hof.out.mono ?_; rintro e w' ⟨rfl, rfl⟩)
            go_ret2
            exact ⟨by rw [HX.out]; rfl, hB4⟩
           | some m =>
            obtain rfl := hv1 m rfl
            cases O2 with
            | none =>
             have HX := Lib.hid (show V = none by rw [HJ.out, join_none2])
             clear HJ hv1 hv2
             go_wp2_with (go_at_call 99; refine hof.out.mono ?_; rintro e w' ⟨rfl, rfl⟩)
             go_ret2
             exact ⟨by rw [HX.out]; rfl, hB4⟩
            | some n =>
             obtain rfl := hv2 n rfl
             cases h3 : ofC n1 ((n2 : Int)) with
             | none =>
              have HX := Lib.hid (show V = none by rw [HJ.out]; show (ofC n1 ((n2 : Int))) = none; rw [h3])
              rw [h3] at hof
              clear HJ hv1 hv2 h3
              go_wp2_with (go_at_call 99; refine hof.out.mono ?_; rintro e w' ⟨rfl, rfl⟩)
              go_ret2
              exact ⟨by rw [HX.out]; rfl, hB4⟩
             | some a =>
              have HX := Lib.hid (show V = some (a) by rw [HJ.out]; show (ofC n1 ((n2 : Int))) = _; rw [h3])
              have hfin := ofC_fin _ _ _ h3
              have hmul := fun w' => run_float_arith (P := Tryz.prog) w' .mul 29 .f64 4607182418800017408 a (a) (mul_one_bits a hfin)
              rw [h3] at hof
              clear HJ hv1 hv2 h3
              go_wp2_with (go_at_call 99; refine hof.out.mono ?_; rintro e w' ⟨rfl, rfl⟩)
              go_ret2
              exact ⟨by rw [HX.out]; rfl, hB4⟩
          ·rw [decide_eq_false uc] at e48
           obtain ⟨r2, hr2⟩ : ∃ r2, u = 45 :: r2 := by
            cases u with
            | nil => exact absurd ub (by decide)
            | cons c r => exact ⟨r, by rw [show c = 45 from ub]⟩
           have hr3 : ¬ (r2 = [] ∨ r2 = [48]) := by
            rintro (h | h)
            ·rw [hr2, h] at ua; exact ua (Nat.le_refl _)
            ·exact uc (by rw [hr2, h])
           have hul : u.length = r2.length + 1 := by rw [hr2]; rfl
           have hux2 : (bstr u).extract 1 u.length = bstr r2 := by rw [hr2]; exact tail_bstr' 45 r2 _ rfl
           have HC2 := Lib.hid (show cutP R = some (t, 45 :: r2) by rw [← hr2]; exact HC.out)
           have hU2 : r2.length ≤ 1000 := by omega
           obtain ⟨O1, hO1⟩ : ∃ O1, O1 = valueL 10 16 t := ⟨_, rfl⟩
           obtain ⟨O2, hO2⟩ : ∃ O2, O2 = valueL 10 4 r2 := ⟨_, rfl⟩
           have HJ := Lib.hid (show V = joinC O1 O2 (fun n => -(n : Int)) by rw [HMg.out, join_strip R t r2 HC2.out hr3, ← hO1, ← hO2])
           clear ua ub uc HC HC2 HMg hr2 hr3 hul hU
           have hU := hU2
           clear hU2
           have hd1 : ∀ w', Calls Tryz.prog 98 #[.string (bstr t), .int .i64 16] w' fun e w'' => ∃ n : Nat, e = .returned (.tuple #[.int .u64 (n : Int), .bool O1.isSome]) ∧ n < 10 ^ 16 ∧ (∀ v, O1 = some v → n = v) ∧ Below w'.heap.size w' w'' := by
            intro w'; rw [hO1]; exact fdigits_any t ht 16 (by omega) w'
           have hd2 : ∀ w', Calls Tryz.prog 98 #[.string (bstr r2), .int .i64 4] w' fun e w'' => ∃ n : Nat, e = .returned (.tuple #[.int .u64 (n : Int), .bool O2.isSome]) ∧ n < 10 ^ 4 ∧ (∀ v, O2 = some v → n = v) ∧ Below w'.heap.size w' w'' := by
            intro w'; rw [hO2]; exact fdigits_any r2 hU 4 (by omega) w'
           have Hd1 := Lib.hid hd1
           have Hd2 := Lib.hid hd2
           have tokd : True := trivial
           clear hd1 hd2 hO1 hO2 ht hU
           go_wp2_with (first
            | (go_at_call 98; have _t := tokd; refine (Hd1.out _).mono ?_; rintro e w3 ⟨n1, rfl, hn1, hv1, hb3⟩; clear tokd)
            | (go_at_call 98; refine (Hd2.out _).mono ?_; rintro e w4 ⟨n2, rfl, hn2, hv2, hb4⟩; refine Hid.out ?_))
           refine Lib.hid ?_
           have hB4 : Below w.heap.size w w4 := (hBw.trans (hb3.mono hBw.size)).trans (hb4.mono (Nat.le_trans hBw.size hb3.size))
           have hw1 : IntKind.i64.wrap (n2 : Int) = (n2 : Int) := by rw [IntKind.wrap_i64]; omega
           have hw2 : IntKind.i64.wrap (-(n2 : Int)) = -(n2 : Int) := by rw [IntKind.wrap_i64]; omega
           have hof := Lib.hid (fof_any n1 (-(n2 : Int)) (by omega) (by omega) (by omega) w4)
           clear Hd1 Hd2 hn1 hn2
           cases O1 with
           | none =>
            have HX := Lib.hid (show V = none by rw [HJ.out, join_none1])
            clear HJ hv1 hv2
            go_wp2_with (go_at_call 99; refine hof.out.mono ?_; rintro e w' ⟨rfl, rfl⟩)
            go_ret2
            exact ⟨by rw [HX.out]; rfl, hB4⟩
           | some m =>
            obtain rfl := hv1 m rfl
            cases O2 with
            | none =>
             have HX := Lib.hid (show V = none by rw [HJ.out, join_none2])
             clear HJ hv1 hv2
             go_wp2_with (go_at_call 99; refine hof.out.mono ?_; rintro e w' ⟨rfl, rfl⟩)
             go_ret2
             exact ⟨by rw [HX.out]; rfl, hB4⟩
            | some n =>
             obtain rfl := hv2 n rfl
             cases h3 : ofC n1 (-(n2 : Int)) with
             | none =>
              have HX := Lib.hid (show V = none by rw [HJ.out]; show (ofC n1 (-(n2 : Int))) = none; rw [h3])
              rw [h3] at hof
              clear HJ hv1 hv2 h3
              go_wp2_with (go_at_call 99; refine hof.out.mono ?_; rintro e w' ⟨rfl, rfl⟩)
              go_ret2
              exact ⟨by rw [HX.out]; rfl, hB4⟩
             | some a =>
              have HX := Lib.hid (show V = some (a) by rw [HJ.out]; show (ofC n1 (-(n2 : Int))) = _; rw [h3])
              have hfin := ofC_fin _ _ _ h3
              have hmul := fun w' => run_float_arith (P := Tryz.prog) w' .mul 29 .f64 4607182418800017408 a (a) (mul_one_bits a hfin)
              rw [h3] at hof
              clear HJ hv1 hv2 h3
              go_wp2_with (go_at_call 99; refine hof.out.mono ?_; rintro e w' ⟨rfl, rfl⟩)
              go_ret2
              exact ⟨by rw [HX.out]; rfl, hB4⟩
         ·have uy : (((u.getD 0 0).toNat : Int) == 45) = false := by
           rw [beq_eq_false_iff_ne]
           intro h
           exact ub (UInt8.toNat_inj.1 (by rw [show (45 : UInt8).toNat = 45 from rfl]; omega))
          obtain ⟨O1, hO1⟩ : ∃ O1, O1 = valueL 10 16 t := ⟨_, rfl⟩
          obtain ⟨O2, hO2⟩ : ∃ O2, O2 = valueL 10 4 u := ⟨_, rfl⟩
          have HJ := Lib.hid (show V = joinC O1 O2 (fun n => (n : Int)) by rw [HMg.out, join_keep R t u HC.out (.inl ub), ← hO1, ← hO2])
          generalize u.getD 0 0 = y at *
          clear ua ub HC HMg
          have hd1 : ∀ w', Calls Tryz.prog 98 #[.string (bstr t), .int .i64 16] w' fun e w'' => ∃ n : Nat, e = .returned (.tuple #[.int .u64 (n : Int), .bool O1.isSome]) ∧ n < 10 ^ 16 ∧ (∀ v, O1 = some v → n = v) ∧ Below w'.heap.size w' w'' := by
           intro w'; rw [hO1]; exact fdigits_any t ht 16 (by omega) w'
          have hd2 : ∀ w', Calls Tryz.prog 98 #[.string (bstr u), .int .i64 4] w' fun e w'' => ∃ n : Nat, e = .returned (.tuple #[.int .u64 (n : Int), .bool O2.isSome]) ∧ n < 10 ^ 4 ∧ (∀ v, O2 = some v → n = v) ∧ Below w'.heap.size w' w'' := by
           intro w'; rw [hO2]; exact fdigits_any u hU 4 (by omega) w'
          have Hd1 := Lib.hid hd1
          have Hd2 := Lib.hid hd2
          have tokd : True := trivial
          clear hd1 hd2 hO1 hO2 ht hU
          go_wp2_with (first
           | (go_at_call 98; have _t := tokd; refine (Hd1.out _).mono ?_; rintro e w3 ⟨n1, rfl, hn1, hv1, hb3⟩; clear tokd)
           | (go_at_call 98; refine (Hd2.out _).mono ?_; rintro e w4 ⟨n2, rfl, hn2, hv2, hb4⟩; refine Hid.out ?_))
          refine Lib.hid ?_
          have hB4 : Below w.heap.size w w4 := (hBw.trans (hb3.mono hBw.size)).trans (hb4.mono (Nat.le_trans hBw.size hb3.size))
          have hw1 : IntKind.i64.wrap (n2 : Int) = (n2 : Int) := by rw [IntKind.wrap_i64]; omega
          have hw2 : IntKind.i64.wrap (-(n2 : Int)) = -(n2 : Int) := by rw [IntKind.wrap_i64]; omega
          have hof := Lib.hid (fof_any n1 ((n2 : Int)) (by omega) (by omega) (by omega) w4)
          clear Hd1 Hd2 hn1 hn2
          cases O1 with
          | none =>
           have HX := Lib.hid (show V = none by rw [HJ.out, join_none1])
           clear HJ hv1 hv2
           go_wp2_with (go_at_call 99; refine hof.out.mono ?_; rintro e w' ⟨rfl, rfl⟩)
           go_ret2
           exact ⟨by rw [HX.out]; rfl, hB4⟩
          | some m =>
           obtain rfl := hv1 m rfl
           cases O2 with
           | none =>
            have HX := Lib.hid (show V = none by rw [HJ.out, join_none2])
            clear HJ hv1 hv2
            go_wp2_with (go_at_call 99; refine hof.out.mono ?_; rintro e w' ⟨rfl, rfl⟩)
            go_ret2
            exact ⟨by rw [HX.out]; rfl, hB4⟩
           | some n =>
            obtain rfl := hv2 n rfl
            cases h3 : ofC n1 ((n2 : Int)) with
            | none =>
             have HX := Lib.hid (show V = none by rw [HJ.out]; show (ofC n1 ((n2 : Int))) = none; rw [h3])
             rw [h3] at hof
             clear HJ hv1 hv2 h3
             go_wp2_with (go_at_call 99; refine hof.out.mono ?_; rintro e w' ⟨rfl, rfl⟩)
             go_ret2
             exact ⟨by rw [HX.out]; rfl, hB4⟩
            | some a =>
             have HX := Lib.hid (show V = some (a) by rw [HJ.out]; show (ofC n1 ((n2 : Int))) = _; rw [h3])
             have hfin := ofC_fin _ _ _ h3
             have hmul := fun w' => run_float_arith (P := Tryz.prog) w' .mul 29 .f64 4607182418800017408 a (a) (mul_one_bits a hfin)
             rw [h3] at hof
             clear HJ hv1 hv2 h3
             go_wp2_with (go_at_call 99; refine hof.out.mono ?_; rintro e w' ⟨rfl, rfl⟩)
             go_ret2
             exact ⟨by rw [HX.out]; rfl, hB4⟩
       ·have hb : (((R.getD k 0).toNat : Int) != 112) = true := by
         rw [bne_iff_ne]
         intro h
         exact hc (UInt8.toNat_inj.1 (by rw [show (112 : UInt8).toNat = 112 from rfl]; omega))
        have HNO := Lib.hid (show ∀ j, j < k + 1 → R.getD j 0 ≠ 112 from fun j hj => by
         rcases Nat.lt_or_eq_of_le (Nat.le_of_lt_succ hj) with h | h
         ·exact hno j h
         ·rw [h]; exact hc)
        generalize R.getD k 0 = y at *
        clear hno hc
        go_wp2
        go_round
        case rel => exact ⟨k + 1, by omega, by go_num, HNO.out⟩
        case measure => simp [intOf]; omega
      ·obtain rfl : k = R.length := by omega
       have HX := Lib.hid (show V = none by rw [HMg.out, magP_miss R (cutP_miss R hno)])
       clear hno HMg
       go_wp2
       go_ret2
       exact ⟨by rw [HX.out]; rfl, hBw⟩
theorem text_len (b : Nat) : (textC b).length ≤ 100 := by
 cases hn : nanC b with
 | true => rw [text_nan b hn]; simp
 | false =>
  rw [text_of b hn, List.length_append]
  have h1 : (if negC b = true then [(45 : UInt8)] else []).length ≤ 1 := by split <;> simp
  have h2 : (bodyC (magC b)).length ≤ 60 := by
   by_cases h0 : magC b = 0
   ·rw [h0]; decide
   ·by_cases hi : magC b = 2047 * 2 ^ 52
    ·rw [hi]; decide
    ·obtain ⟨b1, b2, b3, b4⟩ := fin_bounds b hn h0 hi
     rw [body_fin _ h0 hi, List.length_append, List.length_cons]
     have x1 := numL_len 10 (by omega) 20 (oddC (sigC (magC b))) (by omega)
     generalize powC (magC b) + (twosC (sigC (magC b)) : Int) = P at *
     have x2 : (intL P).length ≤ 22 := by
      have := numL_len 10 (by omega) 20 P.natAbs (by omega)
      unfold intL
      split
      ·rw [List.length_cons]; omega
      ·omega
     omega
  omega
theorem PrdAt.later {w w' : World} {p : Prd} {A : Option Addr} {c B : Nat} (h : PrdAt w p A c) (hB : w.heap.size ≤ B) (hb : Below B w w') : PrdAt w' p A c :=
 ⟨h.ok, h.names.later hB hb, h.lo, h.hi, h.path, h.sum⟩
theorem words_len17 (p : Prd) (ho : p.Ok) (hp : p.path.length ≤ 4000) (hs : sumS p.names ≤ 4000) : (wordsP p).1.length ≤ 6 ∧ (wordsP p).2.length ≤ 4000 := by
 by_cases h : (wordsP p).2 = []
 ·refine ⟨?_, by rw [h]; simp⟩
  unfold wordsP
  repeat' split
  all_goals simp
 ·rcases wordsP_ways p h with ⟨-, e⟩ | ⟨-, e⟩ | ⟨-, e⟩ | ⟨-, e⟩ | ⟨-, e⟩ | ⟨-, e⟩ <;> rw [e] <;> refine ⟨by dsimp only; decide, ?_⟩
  ·have := numL_len20 p.time ho.time; show (numL 10 p.time).length ≤ 4000; omega
  ·have := numL_len20 p.time ho.time; show (numL 10 p.time).length ≤ 4000; omega
  ·have := glue_len 44 p.names
   show (joinL16 p.names).length ≤ 4000
   unfold joinL16
   split
   ·omega
   ·simp
  ·exact hp
  ·show (textR p.net).length ≤ 4000
   unfold textR
   split
   ·rename_i hc
    have h1 := textA_len p.net.a
    have h2 := checkR_lim p.net hc
    have h3 := numL_len20 p.net.n.toNat (by omega)
    rw [List.length_append, List.length_cons]; omega
   ·simp
  ·have := text_len p.cost
   show (textC p.cost).length ≤ 4000
   omega
theorem cat_blank17 (a b : List UInt8) : bstr a ++ ({ data := #[32] } : ByteArray) ++ bstr b = bstr (a ++ 32 :: b) := by
 rw [show ({ data := #[32] } : ByteArray) = bstr [32] from rfl, bstr_cat12, bstr_cat12]
 congr 1
 simp
set_option maxHeartbeats 4000000 in
theorem rtext17_any (p : Prd) (A : Option Addr) (c : Nat) (w : World) (h : PrdAt w p A c) :
  Calls Tryz.prog 32 #[.agg (prdV p A c).toArray] w fun e w' => e = .returned (.string (bstr (textP p))) ∧ Below w.heap.size w w' := by
 have r1 : Row (w.alloc (.cells (prdV p A c).toArray 31)) w.heap.size 31 (prdV p A c) := Row.new w _ _
 have hb1 : Below w.heap.size w (w.alloc (.cells (prdV p A c).toArray 31)) := (Below.refl _ w).alloc (Nat.le_refl _) _
 have h1 := h.later (Nat.le_refl _) hb1
 obtain ⟨la, lb⟩ := words_len17 p h.ok h.path h.sum
 have hsz := Lib.hid (show (Tryz.prog.info? 31).map (·.size) = some (prdV p A c).length by rw [length_prdV p h.ok.net.a]; exact size_prd)
 have K0 := Lib.hid (row_range r1)
 have KK := Lib.hid (fun w' (hq : Below (w.alloc (.cells (prdV p A c).toArray 31)).heap.size (w.alloc (.cells (prdV p A c).toArray 31)) w') => row_range (r1.later hq r1.lt))
 have hwd := Lib.hid (rwords17_any p A c _ h1)
 have hon := Lib.hid (fun w' (hq : Below (w.alloc (.cells (prdV p A c).toArray 31)).heap.size (w.alloc (.cells (prdV p A c).toArray 31)) w') => ronly_any p A c w' (h1.later (Nat.le_refl _) hq))
 have HV := Lib.hid (show textP p = if (wordsP p).2 = [] ∨ onlyP p = false ∨ 511 < (wordsP p).1.length + (wordsP p).2.length then [] else (wordsP p).1 ++ 32 :: (wordsP p).2 from rfl)
 generalize textP p = V at *
 generalize onlyP p = ok at *
 generalize (wordsP p).1 = a at *
 generalize (wordsP p).2 = b at *
 have hza := size_bstr a
 have hzb := size_bstr b
 have e1 := bstr_empty17 b
 clear h1 h r1
 generalize prdV p A c = X at *
 have tok : True := trivial
 by_cases c1 : b = []
 ·have HX := Lib.hid (HV.out.trans (if_pos (.inl c1)))
  rw [decide_eq_true c1] at e1
  clear HV c1
  go_enter Tryz.func32, Tryz.ntmps32
  go_wp2_with (first
   | (with_reducible refine wpList_load_mid rfl 31 (.tmp 1) rfl w.heap.size 0 rfl X _ K0.out Tryz.underlying31 rfl hsz.out ?_)
   | (go_at_call 64; refine hwd.out.mono ?_; rintro e w2 ⟨rfl, hq⟩; have hb2 := hb1.trans (hq.mono hb1.size)))
  go_ret
  exact ⟨by rw [HX.out]; rfl, hb2⟩
 rw [decide_eq_false c1] at e1
 cases ok with
 | false =>
  have HX := Lib.hid (HV.out.trans (if_pos (.inr (.inl rfl))))
  clear HV c1
  go_enter Tryz.func32, Tryz.ntmps32
  go_wp2_with (first
   | (have _t := tok; with_reducible refine wpList_load_mid rfl 31 (.tmp 1) rfl w.heap.size 0 rfl X _ K0.out Tryz.underlying31 rfl hsz.out ?_; clear tok)
   | (go_at_call 64; refine hwd.out.mono ?_; rintro e w2 ⟨rfl, hq⟩; have hb2 := hb1.trans (hq.mono hb1.size))
   | (with_reducible refine wpList_open (d := some 13) ?_ ?_; kernel_rfl; with_reducible refine wpList_load_mid rfl 31 (.tmp 1) rfl w.heap.size 0 rfl X _ (KK.out _ hq) Tryz.underlying31 rfl hsz.out ?_)
   | (go_at_call 65; refine (hon.out _ hq).mono ?_; rintro e w3 ⟨rfl, hq3⟩; have hb3 := hb2.trans (hq3.mono hb2.size)))
  go_ret
  exact ⟨by rw [HX.out]; rfl, hb3⟩
 | true =>
  by_cases c2 : 511 < a.length + b.length
  ·have HX := Lib.hid (HV.out.trans (if_pos (.inr (.inr c2))))
   have a2 : (511 : Int) < (a.length : Int) + (b.length : Int) := by omega
   clear HV c1 c2
   go_enter Tryz.func32, Tryz.ntmps32
   go_wp2_with (first
    | (have _t := tok; with_reducible refine wpList_load_mid rfl 31 (.tmp 1) rfl w.heap.size 0 rfl X _ K0.out Tryz.underlying31 rfl hsz.out ?_; clear tok)
    | (go_at_call 64; refine hwd.out.mono ?_; rintro e w2 ⟨rfl, hq⟩; have hb2 := hb1.trans (hq.mono hb1.size))
    | (with_reducible refine wpList_open (d := some 13) ?_ ?_; kernel_rfl; with_reducible refine wpList_load_mid rfl 31 (.tmp 1) rfl w.heap.size 0 rfl X _ (KK.out _ hq) Tryz.underlying31 rfl hsz.out ?_)
    | (go_at_call 65; refine (hon.out _ hq).mono ?_; rintro e w3 ⟨rfl, hq3⟩; have hb3 := hb2.trans (hq3.mono hb2.size)))
   go_ret
   exact ⟨by rw [HX.out]; rfl, hb3⟩
  ·have HX := Lib.hid (HV.out.trans (if_neg (by rintro (h | h | h); exact c1 h; cases h; exact c2 h)))
   have a2 : decide ((511 : Int) < (a.length : Int) + (b.length : Int)) = false := decide_eq_false (by omega)
   have a3 : (bstr a ++ ({ data := #[32] } : ByteArray)).size = a.length + 1 := by rw [show ({ data := #[32] } : ByteArray) = bstr [32] from rfl, bstr_cat12, size_bstr]; simp
   have a4 : ({ data := #[32] } : ByteArray).size = 1 := rfl
   clear HV c1 c2
   go_enter Tryz.func32, Tryz.ntmps32
   go_wp2_with (first
    | (have _t := tok; with_reducible refine wpList_load_mid rfl 31 (.tmp 1) rfl w.heap.size 0 rfl X _ K0.out Tryz.underlying31 rfl hsz.out ?_; clear tok)
    | (go_at_call 64; refine hwd.out.mono ?_; rintro e w2 ⟨rfl, hq⟩; have hb2 := hb1.trans (hq.mono hb1.size))
    | (with_reducible refine wpList_open (d := some 13) ?_ ?_; kernel_rfl; with_reducible refine wpList_load_mid rfl 31 (.tmp 1) rfl w.heap.size 0 rfl X _ (KK.out _ hq) Tryz.underlying31 rfl hsz.out ?_)
    | (go_at_call 65; refine (hon.out _ hq).mono ?_; rintro e w3 ⟨rfl, hq3⟩; have hb3 := hb2.trans (hq3.mono hb2.size)))
   go_ret
   exact ⟨by rw [HX.out, ← cat_blank17]; rfl, hb3⟩
def sameP (p q : Prd) : Bool := decide (p.kind = q.kind) && decide (p.time = q.time) && decide (p.names = q.names) && decide (p.path = q.path) && sameR p.net q.net && decide (p.cost = q.cost)
theorem sameP_iff (p q : Prd) : sameP p q = true ↔ p = q := by
 unfold sameP
 simp only [Bool.and_eq_true, decide_eq_true_iff, sameR_iff]
 constructor
 ·rintro ⟨⟨⟨⟨⟨h1, h2⟩, h3⟩, h4⟩, h5⟩, h6⟩
  obtain ⟨k, t, ns, pa, r, c⟩ := p
  obtain ⟨k', t', ns', pa', r', c'⟩ := q
  simp only at h1 h2 h3 h4 h5 h6
  subst h1 h2 h3 h4 h5 h6
  rfl
 ·rintro rfl
  exact ⟨⟨⟨⟨⟨rfl, rfl⟩, rfl⟩, rfl⟩, rfl⟩, rfl⟩
end Go.Proofs.YtjieebmcbpdeiaaGreatDoor
