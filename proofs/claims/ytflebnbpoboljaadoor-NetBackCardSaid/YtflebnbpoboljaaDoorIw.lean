/- LAYER 12: the document's Parse of a text that isn't four bytes' and holds no '::'. -/
import Derived.Test.YtflebnbpoboljaaDoorIy
namespace Go.Proofs.YtflebnbpoboljaaDoor
set_option maxRecDepth 100000
open Go Go.RowKit

theorem findC_none_at (s : List UInt8) (h : findC s = none) (k : Nat) (hk : k + 1 < s.length) : ¬ (s.getD k 0 = 58 ∧ s.getD (k + 1) 0 = 58) := by
  induction s generalizing k with
  | nil => simp at hk
  | cons c s ih =>
    cases s with
    | nil => simp at hk
    | cons d s =>
      by_cases hcd : c = 58 ∧ d = 58
      · have : findC (c :: d :: s) = some 0 := if_pos hcd
        rw [this] at h; cases h
      · rw [findC_cons c d s hcd, Option.map_eq_none_iff] at h
        cases k with
        | zero => exact hcd
        | succ k => exact ih h k (by simpa using hk)
set_option maxHeartbeats 2000000 in
theorem rparse_plainA (s : List UInt8) (hs : s.length ≤ 1000) (hn : numbersL 10 3 255 46 s = none) (hf : findC s = none) (w : World) :
    Calls Tryd.prog 22 #[.string (bstr s)] w fun e w' => e = .returned (parsV (parse6 s)) ∧ Below w.heap.size w w' := by
  have hz := size_bstr s
  have hnum := Lib.hid (fun w' => rnumbers10_any s hs w')
  rw [hn] at hnum
  have hnum6 := Lib.hid (fun w' => rnumbers16_any s hs w')
  have HP0 := Lib.hid (show parse6 s = match numbersL 16 4 65535 58 s with | none => none | some l => if l.length = 8 ∧ textA (sixA l) = s then some (sixA l) else none by unfold parse6; rw [hf]; cases numbersL 16 4 65535 58 s <;> rfl)
  have HC := Lib.hid (findC_none_at s hf)
  have r0 : Row (w.alloc (.cells (adrV zeroA).toArray 24)) w.heap.size 24 (adrV zeroA) := Row.new w _ _
  have hb0 : Below w.heap.size w (w.alloc (.cells (adrV zeroA).toArray 24)) := (Below.refl _ w).alloc (Nat.le_refl _) _
  clear hf
  go_enter Tryd.func22, Tryd.ntmps22
  go_wp2_with (go_at_call 37; refine (hnum.out _).mono ?_; rintro e w3 ⟨v3, rfl, rfl, hb3⟩; have hr3 := r0.later hb3 r0.lt; have hb3 := hb0.trans (hb3.mono hb0.size))
  clear r0 hb0 hnum
  go_loopw [6, 7] (fun v i wr => v = .int .i64 (-1) ∧ ∃ k : Nat, k ≤ s.length ∧ i = .int .i64 k ∧ Row wr w.heap.size 24 (adrV zeroA) ∧ Below w.heap.size w wr) (fun _ i _ => s.length - (intOf i).toNat)
  case atStart => exact ⟨rfl, 0, by omega, rfl, hr3, hb3⟩
  case round =>
    clear hr3 hb3
    obtain ⟨rfl, k, hk, rfl, hr4, hb4⟩ := hrel
    have hw1 : IntKind.i64.wrap ((k : Int) + 1) = (k : Int) + 1 := by rw [IntKind.wrap_i64]; omega
    by_cases hlt : k + 1 < s.length
    · have hlt' : (k : Int) + 1 < (s.length : Int) := by omega
      have hix1 := index_bstr s k (by omega)
      have hix2 : ∀ w, (Instr.index 9 (.string (bstr s)) (.int .i64 ((k : Int) + 1))).run Tryd.prog w = .ok (.int .u8 ((s.getD (k + 1) 0).toNat : Int)) w := index_bstr s (k + 1) hlt
      have hno := HC.out k hlt
      generalize s.getD k 0 = x at *
      generalize s.getD (k + 1) 0 = y at *
      by_cases hx : x = 58
      · have hy : ((y.toNat : Int) == 58) = false := by
          rw [beq_eq_false_iff_ne]
          intro h
          exact hno ⟨hx, UInt8.toNat_inj.1 (by show y.toNat = 58; omega)⟩
        have hxe : ((x.toNat : Int) == 58) = true := by rw [hx]; rfl
        clear hno hx
        go_wp2
        go_roundw
        case rel => exact ⟨rfl, k + 1, by omega, by go_num, hr4, hb4⟩
        case measure => simp [intOf]; omega
      · have hxe : ((x.toNat : Int) == 58) = false := by
          rw [beq_eq_false_iff_ne]
          intro h
          exact hx (UInt8.toNat_inj.1 (by show x.toNat = 58; omega))
        clear hno hx
        go_wp2
        go_roundw
        case rel => exact ⟨rfl, k + 1, by omega, by go_num, hr4, hb4⟩
        case measure => simp [intOf]; omega
    · have hge : (s.length : Int) ≤ (k : Int) + 1 := by omega
      have hzz := Lib.hid (show (Tryd.prog.info? 24).map (·.size) = some (adrV zeroA).toArray.size by rw [size_adr, List.size_toArray, length_adrV zeroA_ok])
      have HZ1 := Lib.hid (show (adrV zeroA).toArray.all (·.oneCell') = true from all_one (adrV_one _))
      cases hn6 : numbersL 16 4 65535 58 s with
      | none =>
        have HP := Lib.hid (show parse6 s = none by rw [HP0.out, hn6])
        rw [hn6] at hnum6
        go_wp2_with (first
          | (go_at_call 37; refine (hnum6.out _).mono ?_; rintro e w5 ⟨v5, rfl, rfl, hb5⟩; have hr5 := hr4.later hb5 hr4.lt; have hb5 := hb4.trans (hb5.mono hb4.size); have H5 := Lib.hid (show w5.heap[w.heap.size]? = some (.cells (adrV zeroA).toArray 24 (0, 0)) from hr5))
          | (with_reducible refine wpList_store_row rfl 24 (.tmp 2) (.tmp 85) rfl w.heap.size _ rfl rfl 24 (adrV zeroA).toArray H5.out (by kernel_rfl) (by kernel_rfl) (by kernel_rfl) ?_; refine Hid.out ?_))
        refine Lib.hid ?_
        generalize hw6 : World.setRow _ _ _ = w6
        obtain ⟨r6, hg6⟩ := row_set hr5 (show World.setRow _ w.heap.size (adrV zeroA).toArray = w6 from hw6)
        have hb6 := hb5.grown hg6 hb5.size (fun k h => by cases h; exact Nat.le_refl _)
        have R6 := Lib.hid (show w6.heap[w.heap.size]? = some (.cells (adrV zeroA).toArray 24 (0, 0)) from r6)
        clear hw6 r6 hg6
        go_wp2_with fail
        exact ⟨rfl, _, results_row_tmp rfl _ _ w.heap.size 24 (adrV zeroA).toArray (0, 0) _ rfl R6.out Tryd.underlying24 rfl hzz.out _ rfl, by rw [HP.out]; rfl, hb6⟩
      | some l =>
        rw [hn6] at hnum6
        have hm := fun n hn => (((numbersL_iff 16 4 65535 58 (by omega) (by omega) (.inr rfl) s l).1 hn6).2 n hn).1
        by_cases h8 : l.length = 8
        · have hsx := Lib.hid (fun A c w' (hs : Sl w' A c (intsV l)) => rsix_any l h8 hm A c w' hs)
          have htx := Lib.hid (fun w' => rtextA_any (sixA l) (sixA_ok l h8) w')
          by_cases he : textA (sixA l) = s
          · have HP := Lib.hid (show parse6 s = some (sixA l) by rw [HP0.out, hn6]; exact if_pos ⟨h8, he⟩)
            have heq : ((bstr (textA (sixA l))).toList == (bstr s).toList) = true := by rw [bstr_beq]; exact decide_eq_true he
            have hVz := Lib.hid (show (Tryd.prog.info? 24).map (·.size) = some (adrV (sixA l)).toArray.size by rw [size_adr, List.size_toArray, length_adrV (sixA_ok l h8)])
            have hVs := Lib.hid (show (adrV zeroA).toArray.size = (adrV (sixA l)).toArray.size by rw [List.size_toArray, List.size_toArray, length_adrV zeroA_ok, length_adrV (sixA_ok l h8)])
            have hV1 := Lib.hid (show (adrV (sixA l)).toArray.all (·.oneCell') = true from all_one (adrV_one _))
            have HPV := Lib.hid (show parsV (parse6 s) = .tuple #[.agg (adrV (sixA l)).toArray, .bool true] by rw [HP.out]; rfl)
            generalize textA (sixA l) = X at *
            generalize adrV (sixA l) = V at *
            have tok1 : True := trivial
            clear hm he
            go_wp2_with (first
              | (go_at_call 37; refine (hnum6.out _).mono ?_; rintro e w5 ⟨v5, rfl, ⟨u, rfl, hown⟩, hb5⟩; obtain ⟨A, c, rfl, -, hsl⟩ := Sl.of_own hown; rw [h8]; have hr5 := hr4.later hb5 hr4.lt; have hb5 := hb4.trans (hb5.mono hb4.size); clear hown)
              | (have _t := tok1; go_at_call 38; refine (hsx.out A c _ hsl).mono ?_; rintro e w7 ⟨rfl, hb7⟩; have hr7 := hr5.later hb7 hr5.lt; have hsl7 := hsl.later (Nat.le_refl _) hb7; have hb7 := hb5.trans (hb7.mono hb5.size); clear tok1)
              | (go_at_call 38; refine (hsx.out A c _ hsl8).mono ?_; rintro e w9 ⟨rfl, hb9⟩; have hr9 := hr8.later hb9 hr8.lt; have hb9 := hb8.trans (hb9.mono hb8.size); have H9 := Lib.hid (show w9.heap[w.heap.size]? = some (.cells (adrV zeroA).toArray 24 (0, 0)) from hr9))
              | (go_at_call 31; refine (htx.out _).mono ?_; rintro e w8 ⟨rfl, hb8⟩; have hr8 := hr7.later hb8 hr7.lt; have hsl8 := hsl7.later (Nat.le_refl _) hb8; have hb8 := hb7.trans (hb8.mono hb7.size); have H8 := Lib.hid (show w8.heap[w.heap.size]? = some (.cells (adrV zeroA).toArray 24 (0, 0)) from hr8))
              | (with_reducible refine wpList_store_row rfl 24 (.tmp 2) (.tmp 87) rfl w.heap.size V.toArray rfl rfl 24 (adrV zeroA).toArray H9.out hVz.out hVs.out hV1.out ?_; refine Hid.out ?_))
            refine Lib.hid ?_
            generalize hw6 : World.setRow _ _ _ = w6
            obtain ⟨r6, hg6⟩ := row_set hr9 (show World.setRow _ w.heap.size V.toArray = w6 from hw6)
            have hb6 := hb9.grown hg6 hb9.size (fun k h => by cases h; exact Nat.le_refl _)
            have R6 := Lib.hid (show w6.heap[w.heap.size]? = some (.cells V.toArray 24 (0, 0)) from r6)
            clear hw6 r6 hg6
            go_wp2_with fail
            exact ⟨rfl, _, results_row_tmp rfl _ _ w.heap.size 24 V.toArray (0, 0) _ rfl R6.out Tryd.underlying24 rfl hVz.out _ rfl, by rw [HPV.out]; rfl, hb6⟩
          · have HP := Lib.hid (show parse6 s = none by rw [HP0.out, hn6]; exact if_neg (fun h => he h.2))
            have hne : ((bstr (textA (sixA l))).toList == (bstr s).toList) = false := by rw [bstr_beq]; exact decide_eq_false he
            generalize textA (sixA l) = X at *
            generalize adrV (sixA l) = V at *
            have tok1 : True := trivial
            clear hm he
            go_wp2_with (first
              | (go_at_call 37; refine (hnum6.out _).mono ?_; rintro e w5 ⟨v5, rfl, ⟨u, rfl, hown⟩, hb5⟩; obtain ⟨A, c, rfl, -, hsl⟩ := Sl.of_own hown; rw [h8]; have hr5 := hr4.later hb5 hr4.lt; have hb5 := hb4.trans (hb5.mono hb4.size); clear hown)
              | (have _t := tok1; go_at_call 38; refine (hsx.out A c _ hsl).mono ?_; rintro e w7 ⟨rfl, hb7⟩; have hr7 := hr5.later hb7 hr5.lt; have hsl7 := hsl.later (Nat.le_refl _) hb7; have hb7 := hb5.trans (hb7.mono hb5.size); clear tok1)
              | (go_at_call 31; refine (htx.out _).mono ?_; rintro e w8 ⟨rfl, hb8⟩; have hr8 := hr7.later hb8 hr7.lt; have hsl8 := hsl7.later (Nat.le_refl _) hb8; have hb8 := hb7.trans (hb8.mono hb7.size); have H8 := Lib.hid (show w8.heap[w.heap.size]? = some (.cells (adrV zeroA).toArray 24 (0, 0)) from hr8))
              | (with_reducible refine wpList_store_row rfl 24 (.tmp 2) (.tmp 85) rfl w.heap.size _ rfl rfl 24 (adrV zeroA).toArray H8.out (by kernel_rfl) (by kernel_rfl) (by kernel_rfl) ?_; refine Hid.out ?_))
            refine Lib.hid ?_
            generalize hw6 : World.setRow _ _ _ = w6
            obtain ⟨r6, hg6⟩ := row_set hr8 (show World.setRow _ w.heap.size (adrV zeroA).toArray = w6 from hw6)
            have hb6 := hb8.grown hg6 hb8.size (fun k h => by cases h; exact Nat.le_refl _)
            have R6 := Lib.hid (show w6.heap[w.heap.size]? = some (.cells (adrV zeroA).toArray 24 (0, 0)) from r6)
            clear hw6 r6 hg6
            go_wp2_with fail
            exact ⟨rfl, _, results_row_tmp rfl _ _ w.heap.size 24 (adrV zeroA).toArray (0, 0) _ rfl R6.out Tryd.underlying24 rfl hzz.out _ rfl, by rw [HP.out]; rfl, hb6⟩
        · have HP := Lib.hid (show parse6 s = none by rw [HP0.out, hn6]; exact if_neg (fun h => h8 h.1))
          have h8' : ((l.length : Int) == 8) = false := by rw [beq_eq_false_iff_ne]; omega
          clear hm
          go_wp2_with (first
            | (go_at_call 37; refine (hnum6.out _).mono ?_; rintro e w5 ⟨v5, rfl, ⟨u, rfl, hown⟩, hb5⟩; have hr5 := hr4.later hb5 hr4.lt; have hb5 := hb4.trans (hb5.mono hb4.size); have H5 := Lib.hid (show w5.heap[w.heap.size]? = some (.cells (adrV zeroA).toArray 24 (0, 0)) from hr5); obtain ⟨A, c, rfl, -, hsl⟩ := Sl.of_own hown; clear hown)
            | (with_reducible refine wpList_store_row rfl 24 (.tmp 2) (.tmp 85) rfl w.heap.size _ rfl rfl 24 (adrV zeroA).toArray H5.out (by kernel_rfl) (by kernel_rfl) (by kernel_rfl) ?_; refine Hid.out ?_))
          refine Lib.hid ?_
          generalize hw6 : World.setRow _ _ _ = w6
          obtain ⟨r6, hg6⟩ := row_set hr5 (show World.setRow _ w.heap.size (adrV zeroA).toArray = w6 from hw6)
          have hb6 := hb5.grown hg6 hb5.size (fun k h => by cases h; exact Nat.le_refl _)
          have R6 := Lib.hid (show w6.heap[w.heap.size]? = some (.cells (adrV zeroA).toArray 24 (0, 0)) from r6)
          clear hw6 r6 hg6
          go_wp2_with fail
          exact ⟨rfl, _, results_row_tmp rfl _ _ w.heap.size 24 (adrV zeroA).toArray (0, 0) _ rfl R6.out Tryd.underlying24 rfl hzz.out _ rfl, by rw [HP.out]; rfl, hb6⟩
set_option maxHeartbeats 2000000 in
theorem rparse_plainB (s : List UInt8) (hs : s.length ≤ 1000) (l0 : List Nat) (hn : numbersL 10 3 255 46 s = some l0) (h40 : l0.length ≠ 4) (hf : findC s = none) (w : World) :
    Calls Tryd.prog 22 #[.string (bstr s)] w fun e w' => e = .returned (parsV (parse6 s)) ∧ Below w.heap.size w w' := by
  have hz := size_bstr s
  have hnum := Lib.hid (fun w' => rnumbers10_any s hs w')
  rw [hn] at hnum
  have hnum6 := Lib.hid (fun w' => rnumbers16_any s hs w')
  have HP0 := Lib.hid (show parse6 s = match numbersL 16 4 65535 58 s with | none => none | some l => if l.length = 8 ∧ textA (sixA l) = s then some (sixA l) else none by unfold parse6; rw [hf]; cases numbersL 16 4 65535 58 s <;> rfl)
  have HC := Lib.hid (findC_none_at s hf)
  have r0 : Row (w.alloc (.cells (adrV zeroA).toArray 24)) w.heap.size 24 (adrV zeroA) := Row.new w _ _
  have hb0 : Below w.heap.size w (w.alloc (.cells (adrV zeroA).toArray 24)) := (Below.refl _ w).alloc (Nat.le_refl _) _
  have h4' : ((l0.length : Int) == 4) = false := by rw [beq_eq_false_iff_ne]; omega
  clear hf
  go_enter Tryd.func22, Tryd.ntmps22
  go_wp2_with (go_at_call 37; refine (hnum.out _).mono ?_; rintro e w3 ⟨v3, rfl, ⟨u0, rfl, hown0⟩, hb3⟩; obtain ⟨A0, c0, rfl, -, -⟩ := Sl.of_own hown0; clear hown0; have hr3 := r0.later hb3 r0.lt; have hb3 := hb0.trans (hb3.mono hb0.size))
  clear r0 hb0 hnum
  go_loopw [6, 7] (fun v i wr => v = .int .i64 (-1) ∧ ∃ k : Nat, k ≤ s.length ∧ i = .int .i64 k ∧ Row wr w.heap.size 24 (adrV zeroA) ∧ Below w.heap.size w wr) (fun _ i _ => s.length - (intOf i).toNat)
  case atStart => exact ⟨rfl, 0, by omega, rfl, hr3, hb3⟩
  case round =>
    clear hr3 hb3
    obtain ⟨rfl, k, hk, rfl, hr4, hb4⟩ := hrel
    have hw1 : IntKind.i64.wrap ((k : Int) + 1) = (k : Int) + 1 := by rw [IntKind.wrap_i64]; omega
    by_cases hlt : k + 1 < s.length
    · have hlt' : (k : Int) + 1 < (s.length : Int) := by omega
      have hix1 := index_bstr s k (by omega)
      have hix2 : ∀ w, (Instr.index 9 (.string (bstr s)) (.int .i64 ((k : Int) + 1))).run Tryd.prog w = .ok (.int .u8 ((s.getD (k + 1) 0).toNat : Int)) w := index_bstr s (k + 1) hlt
      have hno := HC.out k hlt
      generalize s.getD k 0 = x at *
      generalize s.getD (k + 1) 0 = y at *
      by_cases hx : x = 58
      · have hy : ((y.toNat : Int) == 58) = false := by
          rw [beq_eq_false_iff_ne]
          intro h
          exact hno ⟨hx, UInt8.toNat_inj.1 (by show y.toNat = 58; omega)⟩
        have hxe : ((x.toNat : Int) == 58) = true := by rw [hx]; rfl
        clear hno hx
        go_wp2
        go_roundw
        case rel => exact ⟨rfl, k + 1, by omega, by go_num, hr4, hb4⟩
        case measure => simp [intOf]; omega
      · have hxe : ((x.toNat : Int) == 58) = false := by
          rw [beq_eq_false_iff_ne]
          intro h
          exact hx (UInt8.toNat_inj.1 (by show x.toNat = 58; omega))
        clear hno hx
        go_wp2
        go_roundw
        case rel => exact ⟨rfl, k + 1, by omega, by go_num, hr4, hb4⟩
        case measure => simp [intOf]; omega
    · have hge : (s.length : Int) ≤ (k : Int) + 1 := by omega
      have hzz := Lib.hid (show (Tryd.prog.info? 24).map (·.size) = some (adrV zeroA).toArray.size by rw [size_adr, List.size_toArray, length_adrV zeroA_ok])
      have HZ1 := Lib.hid (show (adrV zeroA).toArray.all (·.oneCell') = true from all_one (adrV_one _))
      cases hn6 : numbersL 16 4 65535 58 s with
      | none =>
        have HP := Lib.hid (show parse6 s = none by rw [HP0.out, hn6])
        rw [hn6] at hnum6
        go_wp2_with (first
          | (go_at_call 37; refine (hnum6.out _).mono ?_; rintro e w5 ⟨v5, rfl, rfl, hb5⟩; have hr5 := hr4.later hb5 hr4.lt; have hb5 := hb4.trans (hb5.mono hb4.size); have H5 := Lib.hid (show w5.heap[w.heap.size]? = some (.cells (adrV zeroA).toArray 24 (0, 0)) from hr5))
          | (with_reducible refine wpList_store_row rfl 24 (.tmp 2) (.tmp 85) rfl w.heap.size _ rfl rfl 24 (adrV zeroA).toArray H5.out (by kernel_rfl) (by kernel_rfl) (by kernel_rfl) ?_; refine Hid.out ?_))
        refine Lib.hid ?_
        generalize hw6 : World.setRow _ _ _ = w6
        obtain ⟨r6, hg6⟩ := row_set hr5 (show World.setRow _ w.heap.size (adrV zeroA).toArray = w6 from hw6)
        have hb6 := hb5.grown hg6 hb5.size (fun k h => by cases h; exact Nat.le_refl _)
        have R6 := Lib.hid (show w6.heap[w.heap.size]? = some (.cells (adrV zeroA).toArray 24 (0, 0)) from r6)
        clear hw6 r6 hg6
        go_wp2_with fail
        exact ⟨rfl, _, results_row_tmp rfl _ _ w.heap.size 24 (adrV zeroA).toArray (0, 0) _ rfl R6.out Tryd.underlying24 rfl hzz.out _ rfl, by rw [HP.out]; rfl, hb6⟩
      | some l =>
        rw [hn6] at hnum6
        have hm := fun n hn => (((numbersL_iff 16 4 65535 58 (by omega) (by omega) (.inr rfl) s l).1 hn6).2 n hn).1
        by_cases h8 : l.length = 8
        · have hsx := Lib.hid (fun A c w' (hs : Sl w' A c (intsV l)) => rsix_any l h8 hm A c w' hs)
          have htx := Lib.hid (fun w' => rtextA_any (sixA l) (sixA_ok l h8) w')
          by_cases he : textA (sixA l) = s
          · have HP := Lib.hid (show parse6 s = some (sixA l) by rw [HP0.out, hn6]; exact if_pos ⟨h8, he⟩)
            have heq : ((bstr (textA (sixA l))).toList == (bstr s).toList) = true := by rw [bstr_beq]; exact decide_eq_true he
            have hVz := Lib.hid (show (Tryd.prog.info? 24).map (·.size) = some (adrV (sixA l)).toArray.size by rw [size_adr, List.size_toArray, length_adrV (sixA_ok l h8)])
            have hVs := Lib.hid (show (adrV zeroA).toArray.size = (adrV (sixA l)).toArray.size by rw [List.size_toArray, List.size_toArray, length_adrV zeroA_ok, length_adrV (sixA_ok l h8)])
            have hV1 := Lib.hid (show (adrV (sixA l)).toArray.all (·.oneCell') = true from all_one (adrV_one _))
            have HPV := Lib.hid (show parsV (parse6 s) = .tuple #[.agg (adrV (sixA l)).toArray, .bool true] by rw [HP.out]; rfl)
            generalize textA (sixA l) = X at *
            generalize adrV (sixA l) = V at *
            have tok1 : True := trivial
            clear hm he
            go_wp2_with (first
              | (go_at_call 37; refine (hnum6.out _).mono ?_; rintro e w5 ⟨v5, rfl, ⟨u, rfl, hown⟩, hb5⟩; obtain ⟨A, c, rfl, -, hsl⟩ := Sl.of_own hown; rw [h8]; have hr5 := hr4.later hb5 hr4.lt; have hb5 := hb4.trans (hb5.mono hb4.size); clear hown)
              | (have _t := tok1; go_at_call 38; refine (hsx.out A c _ hsl).mono ?_; rintro e w7 ⟨rfl, hb7⟩; have hr7 := hr5.later hb7 hr5.lt; have hsl7 := hsl.later (Nat.le_refl _) hb7; have hb7 := hb5.trans (hb7.mono hb5.size); clear tok1)
              | (go_at_call 38; refine (hsx.out A c _ hsl8).mono ?_; rintro e w9 ⟨rfl, hb9⟩; have hr9 := hr8.later hb9 hr8.lt; have hb9 := hb8.trans (hb9.mono hb8.size); have H9 := Lib.hid (show w9.heap[w.heap.size]? = some (.cells (adrV zeroA).toArray 24 (0, 0)) from hr9))
              | (go_at_call 31; refine (htx.out _).mono ?_; rintro e w8 ⟨rfl, hb8⟩; have hr8 := hr7.later hb8 hr7.lt; have hsl8 := hsl7.later (Nat.le_refl _) hb8; have hb8 := hb7.trans (hb8.mono hb7.size); have H8 := Lib.hid (show w8.heap[w.heap.size]? = some (.cells (adrV zeroA).toArray 24 (0, 0)) from hr8))
              | (with_reducible refine wpList_store_row rfl 24 (.tmp 2) (.tmp 87) rfl w.heap.size V.toArray rfl rfl 24 (adrV zeroA).toArray H9.out hVz.out hVs.out hV1.out ?_; refine Hid.out ?_))
            refine Lib.hid ?_
            generalize hw6 : World.setRow _ _ _ = w6
            obtain ⟨r6, hg6⟩ := row_set hr9 (show World.setRow _ w.heap.size V.toArray = w6 from hw6)
            have hb6 := hb9.grown hg6 hb9.size (fun k h => by cases h; exact Nat.le_refl _)
            have R6 := Lib.hid (show w6.heap[w.heap.size]? = some (.cells V.toArray 24 (0, 0)) from r6)
            clear hw6 r6 hg6
            go_wp2_with fail
            exact ⟨rfl, _, results_row_tmp rfl _ _ w.heap.size 24 V.toArray (0, 0) _ rfl R6.out Tryd.underlying24 rfl hVz.out _ rfl, by rw [HPV.out]; rfl, hb6⟩
          · have HP := Lib.hid (show parse6 s = none by rw [HP0.out, hn6]; exact if_neg (fun h => he h.2))
            have hne : ((bstr (textA (sixA l))).toList == (bstr s).toList) = false := by rw [bstr_beq]; exact decide_eq_false he
            generalize textA (sixA l) = X at *
            generalize adrV (sixA l) = V at *
            have tok1 : True := trivial
            clear hm he
            go_wp2_with (first
              | (go_at_call 37; refine (hnum6.out _).mono ?_; rintro e w5 ⟨v5, rfl, ⟨u, rfl, hown⟩, hb5⟩; obtain ⟨A, c, rfl, -, hsl⟩ := Sl.of_own hown; rw [h8]; have hr5 := hr4.later hb5 hr4.lt; have hb5 := hb4.trans (hb5.mono hb4.size); clear hown)
              | (have _t := tok1; go_at_call 38; refine (hsx.out A c _ hsl).mono ?_; rintro e w7 ⟨rfl, hb7⟩; have hr7 := hr5.later hb7 hr5.lt; have hsl7 := hsl.later (Nat.le_refl _) hb7; have hb7 := hb5.trans (hb7.mono hb5.size); clear tok1)
              | (go_at_call 31; refine (htx.out _).mono ?_; rintro e w8 ⟨rfl, hb8⟩; have hr8 := hr7.later hb8 hr7.lt; have hsl8 := hsl7.later (Nat.le_refl _) hb8; have hb8 := hb7.trans (hb8.mono hb7.size); have H8 := Lib.hid (show w8.heap[w.heap.size]? = some (.cells (adrV zeroA).toArray 24 (0, 0)) from hr8))
              | (with_reducible refine wpList_store_row rfl 24 (.tmp 2) (.tmp 85) rfl w.heap.size _ rfl rfl 24 (adrV zeroA).toArray H8.out (by kernel_rfl) (by kernel_rfl) (by kernel_rfl) ?_; refine Hid.out ?_))
            refine Lib.hid ?_
            generalize hw6 : World.setRow _ _ _ = w6
            obtain ⟨r6, hg6⟩ := row_set hr8 (show World.setRow _ w.heap.size (adrV zeroA).toArray = w6 from hw6)
            have hb6 := hb8.grown hg6 hb8.size (fun k h => by cases h; exact Nat.le_refl _)
            have R6 := Lib.hid (show w6.heap[w.heap.size]? = some (.cells (adrV zeroA).toArray 24 (0, 0)) from r6)
            clear hw6 r6 hg6
            go_wp2_with fail
            exact ⟨rfl, _, results_row_tmp rfl _ _ w.heap.size 24 (adrV zeroA).toArray (0, 0) _ rfl R6.out Tryd.underlying24 rfl hzz.out _ rfl, by rw [HP.out]; rfl, hb6⟩
        · have HP := Lib.hid (show parse6 s = none by rw [HP0.out, hn6]; exact if_neg (fun h => h8 h.1))
          have h8' : ((l.length : Int) == 8) = false := by rw [beq_eq_false_iff_ne]; omega
          clear hm
          go_wp2_with (first
            | (go_at_call 37; refine (hnum6.out _).mono ?_; rintro e w5 ⟨v5, rfl, ⟨u, rfl, hown⟩, hb5⟩; have hr5 := hr4.later hb5 hr4.lt; have hb5 := hb4.trans (hb5.mono hb4.size); have H5 := Lib.hid (show w5.heap[w.heap.size]? = some (.cells (adrV zeroA).toArray 24 (0, 0)) from hr5); obtain ⟨A, c, rfl, -, hsl⟩ := Sl.of_own hown; clear hown)
            | (with_reducible refine wpList_store_row rfl 24 (.tmp 2) (.tmp 85) rfl w.heap.size _ rfl rfl 24 (adrV zeroA).toArray H5.out (by kernel_rfl) (by kernel_rfl) (by kernel_rfl) ?_; refine Hid.out ?_))
          refine Lib.hid ?_
          generalize hw6 : World.setRow _ _ _ = w6
          obtain ⟨r6, hg6⟩ := row_set hr5 (show World.setRow _ w.heap.size (adrV zeroA).toArray = w6 from hw6)
          have hb6 := hb5.grown hg6 hb5.size (fun k h => by cases h; exact Nat.le_refl _)
          have R6 := Lib.hid (show w6.heap[w.heap.size]? = some (.cells (adrV zeroA).toArray 24 (0, 0)) from r6)
          clear hw6 r6 hg6
          go_wp2_with fail
          exact ⟨rfl, _, results_row_tmp rfl _ _ w.heap.size 24 (adrV zeroA).toArray (0, 0) _ rfl R6.out Tryd.underlying24 rfl hzz.out _ rfl, by rw [HP.out]; rfl, hb6⟩
end Go.Proofs.YtflebnbpoboljaaDoor
