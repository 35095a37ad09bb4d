/- Texts of this claim, one behind the other. -/
import Derived.Test.YtgnhmpfoddfpdaaGreatDoorRaau
import Derived.Test.YtgnhmpfoddfpdaaGreatDoorRaag
import Derived.Test.YtgnhmpfoddfpdaaGreatDoorRaas
import Derived.Great.FillDense
/- LAYER 12: the document's Parse of a text that isn't four bytes' and holds '::'. -/
namespace Go.Proofs.YtgnhmpfoddfpdaaGreatDoor
set_option maxRecDepth 100000
open Go Go.RowKit

set_option maxHeartbeats 4000000 in
theorem rparse_cutB (s : List UInt8) (hs : s.length ≤ 1000) (l0 : List Nat) (hn : numbersL 10 3 255 46 s = some l0) (h40 : l0.length ≠ 4) (k : Nat) (hf : findC s = some k) (w : World) :
    Calls Tryz.prog 39 #[.string (bstr s)] w fun e w' => e = .returned (parsV (parse6 s)) ∧ Below w.heap.size w w' := by
  have hz := size_bstr s
  have hnum := Lib.hid (fun w' => rnumbers10_any s hs w')
  rw [hn] at hnum
  obtain ⟨hkl, hka, hkb, hkc⟩ := findC_some_at s k hf
  have hnumF := rnumbers16_any (s.take k) (by rw [List.length_take]; omega)
  have hnumB := rnumbers16_any (s.drop (k + 2)) (by rw [List.length_drop]; omega)
  have HP0 := Lib.hid (show parse6 s = match numbersL 16 4 65535 58 (s.take k), numbersL 16 4 65535 58 (s.drop (k + 2)) with
    | some f, some b => if f.length + b.length ≤ 7 ∧ textA (sixA (padL f b)) = s then some (sixA (padL f b)) else none
    | _, _ => none by unfold parse6; rw [hf]; rfl)
  have HC := Lib.hid hkc
  have HA := Lib.hid hka
  have HB := Lib.hid hkb
  have r0 : Row (w.alloc (.cells (adrV zeroA).toArray 26)) w.heap.size 26 (adrV zeroA) := Row.new w _ _
  have hb0 : Below w.heap.size w (w.alloc (.cells (adrV zeroA).toArray 26)) := (Below.refl _ w).alloc (Nat.le_refl _) _
  have hzz := Lib.hid (show (Tryz.prog.info? 26).map (·.size) = some (adrV zeroA).toArray.size by rw [size_adr, List.size_toArray, length_adrV zeroA_ok])
  have HZ1 := Lib.hid (show (adrV zeroA).toArray.all (·.oneCell') = true from all_one (adrV_one _))
  have e1 : (bstr s).extract 0 k = bstr (s.take k) := by rw [extract_bstr12]; simp
  have e2 : (bstr s).extract (k + 2) s.length = bstr (s.drop (k + 2)) := by rw [extract_bstr12, List.take_of_length_le (by rw [List.length_drop]; omega)]
  have h4' : ((l0.length : Int) == 4) = false := by rw [beq_eq_false_iff_ne]; omega
  have HF := Lib.hid hnumF
  have HBk := Lib.hid hnumB
  clear hf hkc hka hkb hnumF hnumB
  have he1 := Lib.hid e1
  have he2 := Lib.hid e2
  clear e1 e2
  go_enter Tryz.func39, Tryz.ntmps39
  go_wp2_with (go_at_call 65; refine (hnum.out _).mono ?_; rintro e w3 ⟨v3, rfl, ⟨u0, rfl, hown0⟩, hb3⟩; obtain ⟨A0, c0, rfl, -, -⟩ := Sl.of_own hown0; clear hown0; have hr3 := r0.later hb3 r0.lt; have hb3 := hb0.trans (hb3.mono hb0.size))
  clear r0 hb0 hnum
  go_loopw [6, 7] (fun v i wr => ((v = .int .i64 (-1) ∧ ∃ j : Nat, j ≤ k ∧ i = .int .i64 j) ∨ (v = .int .i64 k ∧ i = .int .i64 (k + 1 : Nat))) ∧ Row wr w.heap.size 26 (adrV zeroA) ∧ Below w.heap.size w wr) (fun _ i _ => s.length - (intOf i).toNat)
  case atStart => exact ⟨.inl ⟨rfl, 0, by omega, rfl⟩, hr3, hb3⟩
  case round =>
    clear hr3 hb3
    obtain ⟨h | h, hr4, hb4⟩ := hrel
    · obtain ⟨rfl, j, hj, rfl⟩ := h
      have hw1 : IntKind.i64.wrap ((j : Int) + 1) = (j : Int) + 1 := by rw [IntKind.wrap_i64]; omega
      have hj2 : j + 1 < s.length := by omega
      have hlt' : (j : Int) + 1 < (s.length : Int) := by omega
      have hix1 := index_bstr s j (by omega)
      have hix2 : ∀ w, (Instr.index 9 (.string (bstr s)) (.int .i64 ((j : Int) + 1))).run Tryz.prog w = .ok (.int .u8 ((s.getD (j + 1) 0).toNat : Int)) w := index_bstr s (j + 1) (by omega)
      by_cases hjk : j = k
      · subst hjk
        rw [HA.out] at hix1
        rw [HB.out] at hix2
        go_wp2
        go_roundw
        case rel => exact ⟨.inr ⟨rfl, by go_num⟩, hr4, hb4⟩
        case measure => simp [intOf]; omega
      · have hno := HC.out j (by omega)
        generalize s.getD j 0 = x at *
        generalize s.getD (j + 1) 0 = y at *
        have hj3 : j + 1 ≤ k := by omega
        clear hjk
        by_cases hx : x = 58
        · have hy : ((y.toNat : Int) == 58) = false := by
            rw [beq_eq_false_iff_ne]
            intro h
            exact hno ⟨hx, UInt8.toNat_inj.1 (by show y.toNat = 58; omega)⟩
          have hxe : ((x.toNat : Int) == 58) = true := by rw [hx]; rfl
          clear hno hx
          go_wp2
          go_roundw
          case rel => exact ⟨.inl ⟨rfl, j + 1, by omega, by go_num⟩, hr4, hb4⟩
          case measure => simp [intOf]; omega
        · have hxe : ((x.toNat : Int) == 58) = false := by
            rw [beq_eq_false_iff_ne]
            intro h
            exact hx (UInt8.toNat_inj.1 (by show x.toNat = 58; omega))
          clear hno hx
          go_wp2
          go_roundw
          case rel => exact ⟨.inl ⟨rfl, j + 1, by omega, by go_num⟩, hr4, hb4⟩
          case measure => simp [intOf]; omega
    · obtain ⟨rfl, rfl⟩ := h
      obtain ⟨wo, rfl⟩ : ∃ wo : World, wo = wr := ⟨_, rfl⟩
      have hK1 : (0 : Int) ≤ (k : Int) := by omega
      have hK2 : (k : Int) + 2 ≤ (s.length : Int) := by omega
      have e1 := he1.out
      have e2 := he2.out
      have tok1 : True := trivial
      have tok2 : True := trivial
      clear he1 he2 HA HB HC
      have h3 : (k : Int) + 1 + 1 < (s.length : Int) ∨ (s.length : Int) ≤ (k : Int) + 1 + 1 := by omega
      rcases h3 with h3 | h3
      all_goals
        cases hnF : numbersL 16 4 65535 58 (s.take k) with
        | none =>
          have HP := Lib.hid (show parse6 s = none by rw [HP0.out, hnF])
          have hnumF := Lib.hid (show _ from HF.out)
          rw [hnF] at hnumF
          cases hnB : numbersL 16 4 65535 58 (s.drop (k + 2)) with
          | none =>
            have hnumB := Lib.hid (show _ from HBk.out)
            rw [hnB] at hnumB
            go_wp2_with (first
              | (have _t := tok1; go_at_call 65; refine (hnumF.out _).mono ?_; rintro e w5 ⟨v5, rfl, rfl, hb5⟩; have hr5 := hr4.later hb5 hr4.lt; have hb5 := hb4.trans (hb5.mono hb4.size); clear tok1)
              | (have _t := tok2; go_at_call 65; refine (hnumB.out _).mono ?_; rintro e w7 ⟨v7, rfl, rfl, hb7⟩; have hr7 := hr5.later hb7 hr5.lt; have hb7 := hb5.trans (hb7.mono hb5.size); have HRw7 := Lib.hid (show w7.heap[w.heap.size]? = some (.cells (adrV zeroA).toArray 26 (0, 0)) from hr7); clear tok2)
              | (have _t := HRw7; refine wpList_store_row rfl 26 (.tmp 2) (.tmp 117) rfl w.heap.size _ rfl rfl 26 (adrV zeroA).toArray HRw7.out (by kernel_rfl) (by kernel_rfl) (by kernel_rfl) ?_; refine Hid.out ?_))
            refine Lib.hid ?_
            generalize hw6 : World.setRow _ _ _ = wz
            obtain ⟨r6, hg6⟩ := row_set (show Row w7 w.heap.size 26 (adrV zeroA) from HRw7.out) (show World.setRow _ w.heap.size (adrV zeroA).toArray = wz from hw6)
            have hb6 := hb7.grown hg6 hb7.size (fun k h => by cases h; exact Nat.le_refl _)
            have R6 := Lib.hid (show wz.heap[w.heap.size]? = some (.cells (adrV zeroA).toArray 26 (0, 0)) from r6)
            clear hw6 r6 hg6
            go_wp2_with fail
            exact ⟨rfl, _, results_row_tmp rfl _ _ w.heap.size 26 (adrV zeroA).toArray (0, 0) _ rfl R6.out Tryz.underlying26 rfl hzz.out _ rfl, by rw [HP.out]; rfl, hb6⟩
          | some b =>
            have hnumB := Lib.hid (show _ from HBk.out)
            rw [hnB] at hnumB
            go_wp2_with (first
              | (have _t := tok1; go_at_call 65; refine (hnumF.out _).mono ?_; rintro e w5 ⟨v5, rfl, rfl, hb5⟩; have hr5 := hr4.later hb5 hr4.lt; have hb5 := hb4.trans (hb5.mono hb4.size); clear tok1)
              | (have _t := tok2; go_at_call 65; refine (hnumB.out _).mono ?_; rintro e w7 ⟨v7, rfl, ⟨u7, rfl, ho7⟩, hb7⟩; obtain ⟨A7, c7, rfl, hs7, -, hl7⟩ := sl_own ho7; have hr7 := hr5.later hb7 hr5.lt; have hq7 := hb7; have hb7 := hb5.trans (hb7.mono hb5.size); have HRw7 := Lib.hid (show w7.heap[w.heap.size]? = some (.cells (adrV zeroA).toArray 26 (0, 0)) from hr7); clear tok2)
              | (have _t := HRw7; refine wpList_store_row rfl 26 (.tmp 2) (.tmp 117) rfl w.heap.size _ rfl rfl 26 (adrV zeroA).toArray HRw7.out (by kernel_rfl) (by kernel_rfl) (by kernel_rfl) ?_; refine Hid.out ?_))
            refine Lib.hid ?_
            generalize hw6 : World.setRow _ _ _ = wz
            obtain ⟨r6, hg6⟩ := row_set (show Row w7 w.heap.size 26 (adrV zeroA) from HRw7.out) (show World.setRow _ w.heap.size (adrV zeroA).toArray = wz from hw6)
            have hb6 := hb7.grown hg6 hb7.size (fun k h => by cases h; exact Nat.le_refl _)
            have R6 := Lib.hid (show wz.heap[w.heap.size]? = some (.cells (adrV zeroA).toArray 26 (0, 0)) from r6)
            clear hw6 r6 hg6
            go_wp2_with fail
            exact ⟨rfl, _, results_row_tmp rfl _ _ w.heap.size 26 (adrV zeroA).toArray (0, 0) _ rfl R6.out Tryz.underlying26 rfl hzz.out _ rfl, by rw [HP.out]; rfl, hb6⟩
        | some f =>
          have hnumF := Lib.hid (show _ from HF.out)
          rw [hnF] at hnumF
          cases hnB : numbersL 16 4 65535 58 (s.drop (k + 2)) with
          | none =>
            have HP := Lib.hid (show parse6 s = none by rw [HP0.out, hnF, hnB])
            have hnumB := Lib.hid (show _ from HBk.out)
            rw [hnB] at hnumB
            go_wp2_with (first
              | (have _t := tok1; go_at_call 65; refine (hnumF.out _).mono ?_; rintro e w5 ⟨v5, rfl, ⟨u5, rfl, ho5⟩, hb5⟩; obtain ⟨A5, c5, rfl, hs5, -, hl5⟩ := sl_own ho5; have hr5 := hr4.later hb5 hr4.lt; have hq5 := hb5; have hb5 := hb4.trans (hb5.mono hb4.size); clear tok1)
              | (have _t := tok2; go_at_call 65; refine (hnumB.out _).mono ?_; rintro e w7 ⟨v7, rfl, rfl, hb7⟩; have hr7 := hr5.later hb7 hr5.lt; have hb7 := hb5.trans (hb7.mono hb5.size); have HRw7 := Lib.hid (show w7.heap[w.heap.size]? = some (.cells (adrV zeroA).toArray 26 (0, 0)) from hr7); clear tok2)
              | (have _t := HRw7; refine wpList_store_row rfl 26 (.tmp 2) (.tmp 117) rfl w.heap.size _ rfl rfl 26 (adrV zeroA).toArray HRw7.out (by kernel_rfl) (by kernel_rfl) (by kernel_rfl) ?_; refine Hid.out ?_))
            refine Lib.hid ?_
            generalize hw6 : World.setRow _ _ _ = wz
            obtain ⟨r6, hg6⟩ := row_set (show Row w7 w.heap.size 26 (adrV zeroA) from HRw7.out) (show World.setRow _ w.heap.size (adrV zeroA).toArray = wz from hw6)
            have hb6 := hb7.grown hg6 hb7.size (fun k h => by cases h; exact Nat.le_refl _)
            have R6 := Lib.hid (show wz.heap[w.heap.size]? = some (.cells (adrV zeroA).toArray 26 (0, 0)) from r6)
            clear hw6 r6 hg6
            go_wp2_with fail
            exact ⟨rfl, _, results_row_tmp rfl _ _ w.heap.size 26 (adrV zeroA).toArray (0, 0) _ rfl R6.out Tryz.underlying26 rfl hzz.out _ rfl, by rw [HP.out]; rfl, hb6⟩
          | some b =>
            have hnumB := Lib.hid (show _ from HBk.out)
            rw [hnB] at hnumB
            have hfl : f.length ≤ s.length := numbersL_len 16 4 65535 58 (s.take k) f s.length (by omega) (by omega) hnF (by rw [List.length_take]; omega)
            have hbl : b.length ≤ s.length := numbersL_len 16 4 65535 58 (s.drop (k + 2)) b s.length (by omega) (by omega) hnB (by rw [List.length_drop]; omega)
            by_cases h7 : f.length + b.length ≤ 7
            · obtain ⟨pd, hpd⟩ : ∃ pd, pd = padL f b := ⟨_, rfl⟩
              have hpl : pd.length = 8 := by rw [hpd]; exact padL_len f b h7
              have hpm : ∀ n ∈ pd, n ≤ 65535 := by rw [hpd]; exact padL_le f b (fun n hn => (((numbersL_iff 16 4 65535 58 (by omega) (by omega) (.inr rfl) _ f).1 hnF).2 n hn).1) (fun n hn => (((numbersL_iff 16 4 65535 58 (by omega) (by omega) (.inr rfl) _ b).1 hnB).2 n hn).1)
              have HP1 := Lib.hid (show parse6 s = if textA (sixA pd) = s then some (sixA pd) else none by
                rw [HP0.out, hnF, hnB, hpd]
                by_cases he : textA (sixA (padL f b)) = s
                · rw [if_pos he]; exact if_pos ⟨h7, he⟩
                · rw [if_neg he]; exact if_neg (fun h => he h.2))
              have HPD := Lib.hid (show ∀ j, f.length + j + b.length = 8 → intsV (f ++ List.replicate j 0) ++ intsV b = intsV pd by
                intro j hj
                rw [hpd, ← intsV_append, List.append_assoc]
                unfold padL
                rw [show 8 - (f.length + b.length) = j by omega])
              have hsx := Lib.hid (fun A c w' (hs : Sl w' A c (intsV pd)) => rsix_any pd hpl hpm A c w' hs)
              have htx := Lib.hid (fun w' => rtextA_any (sixA pd) (sixA_ok pd hpl) w')
              have h7' : (f.length : Int) + (b.length : Int) ≤ 7 := by omega
              have hok6 := sixA_ok pd hpl
              obtain ⟨V, hV⟩ : ∃ V, V = adrV (sixA pd) := ⟨_, rfl⟩
              have hVl : V.length = 17 := by rw [hV]; exact length_adrV hok6
              have hVz := Lib.hid (show (Tryz.prog.info? 26).map (·.size) = some V.toArray.size by rw [size_adr, List.size_toArray, hVl])
              have hVs := Lib.hid (show (adrV zeroA).toArray.size = V.toArray.size by rw [List.size_toArray, List.size_toArray, length_adrV zeroA_ok, hVl])
              have hV1 := Lib.hid (show V.toArray.all (·.oneCell') = true from all_one (by rw [hV]; exact adrV_one _))
              have h17 := Lib.hid (show 17 = V.toArray.size by rw [List.size_toArray, hVl])
              have HV := Lib.hid hV
              rw [← hV] at hsx htx
              clear hV hVl hok6 hpd hpl hpm hnF hnB HP0 HF HBk
              obtain ⟨i0, hi, hz0, hz1, hz2⟩ := info_parts infoInt12
              go_wp2_with (first
                | (have _t := tok1; go_at_call 65; refine (hnumF.out _).mono ?_; rintro e w5 ⟨v5, rfl, ⟨u5, rfl, ho5⟩, hb5⟩; obtain ⟨A5, c5, rfl, hs5, -, hl5⟩ := sl_own ho5; have hr5 := hr4.later hb5 hr4.lt; have hq5 := hb5; have hb5 := hb4.trans (hb5.mono hb4.size); clear tok1)
                | (have _t := tok2; go_at_call 65; refine (hnumB.out _).mono ?_; rintro e w7 ⟨v7, rfl, ⟨u7, rfl, ho7⟩, hb7⟩; obtain ⟨A7, c7, rfl, hs7, -, hl7⟩ := sl_own ho7; have hr7 := hr5.later hb7 hr5.lt; have hq7 := hb7; have hb7 := hb5.trans (hb7.mono hb5.size); have HRw7 := Lib.hid (show w7.heap[w.heap.size]? = some (.cells (adrV zeroA).toArray 26 (0, 0)) from hr7); clear tok2))
              go_loopw [8] (fun v wq => ∃ (j : Nat) (A : Option Addr) (c : Nat), f.length + j + b.length ≤ 8 ∧ v = .slice A (f.length + j) c ∧ wq.ownsRow wo.heap.size 3 1 (.slice A (f.length + j) c) (f.length + j) (intsV (f ++ List.replicate j 0)) ∧ (∀ a, A = some a → a.block < w5.heap.size ∨ w7.heap.size ≤ a.block) ∧ Sl wq A7 c7 (intsV b) ∧ w7.heap.size ≤ wq.heap.size ∧ Row wq w.heap.size 26 (adrV zeroA) ∧ Below w.heap.size w wq) (fun v _ => 8 - lenV12 v)
              case atStart =>
                refine ⟨0, A5, c5, by omega, rfl, ?_, fun a ha => .inl (hl5 a ha).2, hs7, Nat.le_refl _, hr7, hb7⟩
                rw [List.replicate_zero, List.append_nil]
                exact own_later ho5 hq7 (Nat.le_refl _)
              case round =>
                have hwo : wo.heap.size ≤ w7.heap.size := Nat.le_trans hq5.size hq7.size
                have hww : w.heap.size < wo.heap.size := hr4.lt
                clear hr7 hb7 hs7 HRw7
                obtain ⟨j, A, c, hj8, rfl, hown, hblk, hs7, hwq, hrq, hbq⟩ := hrel
                by_cases hlt : f.length + j + b.length < 8
                · have hlt' : (f.length : Int) + (j : Int) + (b.length : Int) < 8 := by omega
                  have n1 : f.length + j + 1 ≤ maxLen := by unfold maxLen; omega
                  have n2 : (f.length + j + 1) * 8 ≤ 140737488355328 := by omega
                  go_wp2_with (at_builtin; have howna := hown.alloc (.cells #[.int .i64 0] 3); have hs7a := hs7.later (Nat.le_refl _) ((Below.refl _ wr).alloc (Nat.le_refl _) (.cells #[.int .i64 0] 3)); have hrqa := hrq.later ((Below.refl _ wr).alloc (Nat.le_refl _) (.cells #[.int .i64 0] 3)) hrq.lt; have hbqa := hbq.alloc hbq.size (.cells #[.int .i64 0] 3); refine wpList_append_own_at _ rfl (.tmp 124) (.tmp 125) 91 rfl wo.heap.size 3 i0 _ 1 8 Tryz.underlying91 hi hz0 hz1 hz2 rfl (by decide) _ (f.length + j) _ rfl howna ⟨wr.heap.size, 0, none⟩ 1 1 [.int .i64 0] rfl rfl (cells_new wr _ _) (by simp [Value.oneCell']) n1 n2 (by rw [World.size_alloc]; omega) ?_; intro v8 w8 hown8 hg8 _ hwh)
                  obtain ⟨A8, c8, rfl, -, -, -⟩ := sl_own hown8
                  have hwh : (Value.slice A8 (f.length + j + 1) c8).ownBlock = (Value.slice A (f.length + j) c).ownBlock ∨ (Value.slice A8 (f.length + j + 1) c8).ownBlock = some (wr.alloc (.cells #[.int .i64 0] 3)).heap.size := hwh
                  have hne7 : ∀ a, A7 = some a → (Value.slice A (f.length + j) c).ownBlock ≠ some a.block := by
                    intro a ha e
                    have h1 := hl7 a ha
                    cases A with
                    | none => cases e
                    | some a2 =>
                      have e : a2.block = a.block := by simpa [Value.ownBlock] using e
                      have := hblk a2 rfl
                      omega
                  have hs8 := sl_keep hs7a hg8 hne7
                  have hr8 := row_keep hrqa hg8 (fun e => by have := own_ge hown e; omega)
                  have hb8 := hbqa.grown hg8 hbqa.size (fun g e => by have := own_ge hown e; omega)
                  have hsz8 := hg8.size
                  rw [World.size_alloc] at hsz8 hwh
                  have hblk8 : ∀ a, A8 = some a → a.block < w5.heap.size ∨ w7.heap.size ≤ a.block := by
                    intro a ha
                    subst ha
                    rcases hwh with h | h
                    · cases A with
                      | none => cases h
                      | some a2 =>
                        have e : a.block = a2.block := by simpa [Value.ownBlock] using h
                        have := hblk a2 rfl
                        rw [e]; exact this
                    · have e : a.block = wr.heap.size + 1 := by simpa [Value.ownBlock] using h
                      omega
                  have eX : intsV (f ++ List.replicate j 0) ++ [.int .i64 0] = intsV (f ++ List.replicate (j + 1) 0) := by
                    rw [List.replicate_succ', ← List.append_assoc, intsV_append (f ++ List.replicate j 0)]; rfl
                  rw [eX] at hown8
                  clear hwh hg8 hne7 hblk hown howna eX
                  go_wp2
                  go_roundw
                  case rel => exact ⟨j + 1, A8, c8, by omega, rfl, hown8, hblk8, hs8, by omega, hr8, hb8⟩
                  case measure => simp [lenV12]; omega
                · have he8 : f.length + j + b.length = 8 := by omega
                  have hge' : (8 : Int) ≤ (f.length : Int) + (j : Int) + (b.length : Int) := by omega
                  have tok3 : True := trivial
                  by_cases he : textA (sixA pd) = s
                  · have HP := Lib.hid (show parse6 s = some (sixA pd) by rw [HP1.out, if_pos he])
                    have htl : ((bstr (textA (sixA pd))).toList == (bstr s).toList) = true := by rw [bstr_beq]; exact decide_eq_true he
                    clear he HP1
                    generalize textA (sixA pd) = X at *
                    go_wp2_with (first
                      | (have _t := tok3; at_builtin; refine wpList_append_sl rfl (.tmp 127) (.tmp 128) 91 rfl wo.heap.size 3 i0 _ 8 Tryz.underlying91 hi hz0 hz1 hz2 rfl _ _ _ rfl hown A7 b.length c7 (intsV b) rfl (by rw [length_intsV]) hs7 (intsV_one _) (by unfold maxLen; omega) (by omega) (Nat.le_trans hwo hwq) ?_; intro v8 w8 hown8 hg8; clear tok3; rw [HPD.out j he8, he8] at hown8; obtain ⟨A8, c8, rfl, hs8, -, -⟩ := sl_own hown8; have hr8 := row_keep hrq hg8 (fun e => by have := own_ge hown e; omega); have hb8 := hbq.grown hg8 hbq.size (fun g e => by have := own_ge hown e; omega); clear hown8 hg8 hown hs7)
                      | (go_at_call 67; refine (hsx.out A8 c8 _ hs8).mono ?_; rintro e w8' ⟨rfl, hb8'⟩; have hr8 := hr8.later hb8' hr8.lt; have hb8 := hb8.trans (hb8'.mono hb8.size); obtain ⟨w8, rfl⟩ : ∃ x : World, x = w8' := ⟨_, rfl⟩; clear hs8 hb8')
                      | (have _t := hr8; refine wpList_store_row rfl 26 (.tmp 11) (.tmp 130) rfl w8.heap.size V.toArray rfl rfl 26 _ (heap_alloc_new w8 _) hVz.out h17.out hV1.out ?_; refine Hid.out ?_))
                    refine Lib.hid ?_
                    generalize hw9 : World.setRow _ _ _ = w9
                    obtain ⟨r9, hb9'⟩ := row_new_set hw9
                    have r9b := hr8.later hb9' hr8.lt
                    have hb9 := hb8.trans (hb9'.mono hb8.size)
                    have HR9 := Lib.hid (show w9.heap[w8.heap.size]? = some (.cells V.toArray 26 (0, 0)) from r9)
                    clear hw9 hb9'
                    have tok4 : True := trivial
                    go_wp2_with (first
                      | (have _t := tok4; with_reducible refine wpList_load_row rfl 26 (.tmp 11) rfl w8.heap.size rfl 26 V.toArray (0, 0) _ HR9.out Tryz.underlying26 rfl hVz.out ?_; clear tok4)
                      | (go_at_call 66; refine (htx.out _).mono ?_; rintro e w10 ⟨rfl, hb10⟩; have r10 := r9.later hb10 r9.lt; have r10b := r9b.later hb10 r9b.lt; have hb10 := hb9.trans (hb10.mono hb9.size); have HR10 := Lib.hid (show w10.heap[w8.heap.size]? = some (.cells V.toArray 26 (0, 0)) from r10); have H10 := Lib.hid (show w10.heap[w.heap.size]? = some (.cells (adrV zeroA).toArray 26 (0, 0)) from r10b); clear r9 r9b r10 r10b)
                      | (with_reducible refine wpList_load_row rfl 26 (.tmp 11) rfl w8.heap.size rfl 26 V.toArray (0, 0) _ HR10.out Tryz.underlying26 rfl hVz.out ?_)
                      | (with_reducible refine wpList_store_row rfl 26 (.tmp 2) (.tmp 136) rfl w.heap.size V.toArray rfl rfl 26 (adrV zeroA).toArray H10.out hVz.out hVs.out hV1.out ?_; refine Hid.out ?_))
                    refine Lib.hid ?_
                    generalize hw11 : World.setRow _ _ _ = w11
                    obtain ⟨r11, hg11⟩ := row_set (show Row w10 w.heap.size 26 (adrV zeroA) from H10.out) (show World.setRow _ w.heap.size V.toArray = w11 from hw11)
                    have hb11 := hb10.grown hg11 hb10.size (fun k h => by cases h; exact Nat.le_refl _)
                    have R11 := Lib.hid (show w11.heap[w.heap.size]? = some (.cells V.toArray 26 (0, 0)) from r11)
                    clear hw11 r11 hg11 H10 HR10
                    go_wp2_with fail
                    exact ⟨rfl, _, results_row_tmp rfl _ _ w.heap.size 26 V.toArray (0, 0) _ rfl R11.out Tryz.underlying26 rfl hVz.out _ rfl, by rw [HP.out]; rw [HV.out]; rfl, hb11⟩
                  · have HP := Lib.hid (show parse6 s = none by rw [HP1.out, if_neg he])
                    have htl : ((bstr (textA (sixA pd))).toList == (bstr s).toList) = false := by rw [bstr_beq]; exact decide_eq_false he
                    clear he HP1
                    generalize textA (sixA pd) = X at *
                    go_wp2_with (first
                      | (have _t := tok3; at_builtin; refine wpList_append_sl rfl (.tmp 127) (.tmp 128) 91 rfl wo.heap.size 3 i0 _ 8 Tryz.underlying91 hi hz0 hz1 hz2 rfl _ _ _ rfl hown A7 b.length c7 (intsV b) rfl (by rw [length_intsV]) hs7 (intsV_one _) (by unfold maxLen; omega) (by omega) (Nat.le_trans hwo hwq) ?_; intro v8 w8 hown8 hg8; clear tok3; rw [HPD.out j he8, he8] at hown8; obtain ⟨A8, c8, rfl, hs8, -, -⟩ := sl_own hown8; have hr8 := row_keep hrq hg8 (fun e => by have := own_ge hown e; omega); have hb8 := hbq.grown hg8 hbq.size (fun g e => by have := own_ge hown e; omega); clear hown8 hg8 hown hs7)
                      | (go_at_call 67; refine (hsx.out A8 c8 _ hs8).mono ?_; rintro e w8' ⟨rfl, hb8'⟩; have hr8 := hr8.later hb8' hr8.lt; have hb8 := hb8.trans (hb8'.mono hb8.size); obtain ⟨w8, rfl⟩ : ∃ x : World, x = w8' := ⟨_, rfl⟩; clear hs8 hb8')
                      | (have _t := hr8; refine wpList_store_row rfl 26 (.tmp 11) (.tmp 130) rfl w8.heap.size V.toArray rfl rfl 26 _ (heap_alloc_new w8 _) hVz.out h17.out hV1.out ?_; refine Hid.out ?_))
                    refine Lib.hid ?_
                    generalize hw9 : World.setRow _ _ _ = w9
                    obtain ⟨r9, hb9'⟩ := row_new_set hw9
                    have r9b := hr8.later hb9' hr8.lt
                    have hb9 := hb8.trans (hb9'.mono hb8.size)
                    have HR9 := Lib.hid (show w9.heap[w8.heap.size]? = some (.cells V.toArray 26 (0, 0)) from r9)
                    clear hw9 hb9'
                    have tok4 : True := trivial
                    go_wp2_with (first
                      | (have _t := tok4; with_reducible refine wpList_load_row rfl 26 (.tmp 11) rfl w8.heap.size rfl 26 V.toArray (0, 0) _ HR9.out Tryz.underlying26 rfl hVz.out ?_; clear tok4)
                      | (go_at_call 66; refine (htx.out _).mono ?_; rintro e w10 ⟨rfl, hb10⟩; have r10 := r9.later hb10 r9.lt; have r10b := r9b.later hb10 r9b.lt; have hb10 := hb9.trans (hb10.mono hb9.size); have HR10 := Lib.hid (show w10.heap[w8.heap.size]? = some (.cells V.toArray 26 (0, 0)) from r10); have H10 := Lib.hid (show w10.heap[w.heap.size]? = some (.cells (adrV zeroA).toArray 26 (0, 0)) from r10b); clear r9 r9b r10 r10b)
                      | (have _t := H10; refine wpList_store_row rfl 26 (.tmp 2) (.tmp 135) rfl w.heap.size _ rfl rfl 26 (adrV zeroA).toArray H10.out (by kernel_rfl) (by kernel_rfl) (by kernel_rfl) ?_; refine Hid.out ?_))
                    refine Lib.hid ?_
                    generalize hw11 : World.setRow _ _ _ = w11
                    obtain ⟨r11, hg11⟩ := row_set (show Row w10 w.heap.size 26 (adrV zeroA) from H10.out) (show World.setRow _ w.heap.size (adrV zeroA).toArray = w11 from hw11)
                    have hb11 := hb10.grown hg11 hb10.size (fun k h => by cases h; exact Nat.le_refl _)
                    have R11 := Lib.hid (show w11.heap[w.heap.size]? = some (.cells (adrV zeroA).toArray 26 (0, 0)) from r11)
                    clear hw11 r11 hg11 H10 HR10
                    go_wp2_with fail
                    exact ⟨rfl, _, results_row_tmp rfl _ _ w.heap.size 26 (adrV zeroA).toArray (0, 0) _ rfl R11.out Tryz.underlying26 rfl hzz.out _ rfl, by rw [HP.out]; rfl, hb11⟩
            · have HP := Lib.hid (show parse6 s = none by rw [HP0.out, hnF, hnB]; exact if_neg (fun h => h7 h.1))
              have h7' : (7 : Int) < (f.length : Int) + (b.length : Int) := by omega
              go_wp2_with (first
                | (have _t := tok1; go_at_call 65; refine (hnumF.out _).mono ?_; rintro e w5 ⟨v5, rfl, ⟨u5, rfl, ho5⟩, hb5⟩; obtain ⟨A5, c5, rfl, hs5, -, hl5⟩ := sl_own ho5; have hr5 := hr4.later hb5 hr4.lt; have hq5 := hb5; have hb5 := hb4.trans (hb5.mono hb4.size); clear tok1)
                | (have _t := tok2; go_at_call 65; refine (hnumB.out _).mono ?_; rintro e w7 ⟨v7, rfl, ⟨u7, rfl, ho7⟩, hb7⟩; obtain ⟨A7, c7, rfl, hs7, -, hl7⟩ := sl_own ho7; have hr7 := hr5.later hb7 hr5.lt; have hq7 := hb7; have hb7 := hb5.trans (hb7.mono hb5.size); have HRw7 := Lib.hid (show w7.heap[w.heap.size]? = some (.cells (adrV zeroA).toArray 26 (0, 0)) from hr7); clear tok2)
                | (have _t := HRw7; refine wpList_store_row rfl 26 (.tmp 2) (.tmp 117) rfl w.heap.size _ rfl rfl 26 (adrV zeroA).toArray HRw7.out (by kernel_rfl) (by kernel_rfl) (by kernel_rfl) ?_; refine Hid.out ?_))
              refine Lib.hid ?_
              generalize hw6 : World.setRow _ _ _ = wz
              obtain ⟨r6, hg6⟩ := row_set (show Row w7 w.heap.size 26 (adrV zeroA) from HRw7.out) (show World.setRow _ w.heap.size (adrV zeroA).toArray = wz from hw6)
              have hb6 := hb7.grown hg6 hb7.size (fun k h => by cases h; exact Nat.le_refl _)
              have R6 := Lib.hid (show wz.heap[w.heap.size]? = some (.cells (adrV zeroA).toArray 26 (0, 0)) from r6)
              clear hw6 r6 hg6
              go_wp2_with fail
              exact ⟨rfl, _, results_row_tmp rfl _ _ w.heap.size 26 (adrV zeroA).toArray (0, 0) _ rfl R6.out Tryz.underlying26 rfl hzz.out _ rfl, by rw [HP.out]; rfl, hb6⟩

end Go.Proofs.YtgnhmpfoddfpdaaGreatDoor

/- LAYER 12: the document's Parse. -/
namespace Go.Proofs.YtgnhmpfoddfpdaaGreatDoor
set_option maxRecDepth 100000
open Go Go.RowKit

theorem rparse_any (s : List UInt8) (hs : s.length ≤ 1000) (w : World) :
    Calls Tryz.prog 39 #[.string (bstr s)] w fun e w' => e = .returned (parsV (parseL s)) ∧ Below w.heap.size w w' := by
  unfold parseL
  cases hn : numbersL 10 3 255 46 s with
  | none =>
    cases hf : findC s with
    | none => exact rparse_plainA s hs hn hf w
    | some k => exact rparse_cutA s hs hn k hf w
  | some l =>
    by_cases h4 : l.length = 4
    · simp only [if_pos h4]
      exact rparse_four s hs l hn h4 w
    · simp only [if_neg h4]
      cases hf : findC s with
      | none => exact rparse_plainB s hs l hn h4 hf w
      | some k => exact rparse_cutB s hs l hn h4 k hf w
end Go.Proofs.YtgnhmpfoddfpdaaGreatDoor

/- LAYER 13: the document's Parse. -/
namespace Go.Proofs.YtgnhmpfoddfpdaaGreatDoor
set_option maxRecDepth 100000
open Go Go.RowKit

theorem parsA_out (s : List UInt8) : ∃ (a : Adr) (b : Bool), a.Ok ∧ parsV (parseL s) = .tuple #[.agg (adrV a).toArray, .bool b] ∧ (b = true → parseL s = some a) ∧ (b = false → parseL s = none) := by
  cases hp : parseL s with
  | none => exact ⟨zeroA, false, zeroA_ok, rfl, (fun h => by cases h), fun _ => rfl⟩
  | some a => exact ⟨a, true, ((parseL_iff s a).1 hp).1, rfl, (fun _ => rfl), fun h => by cases h⟩
theorem parseR_at (s : List UInt8) (k : Nat) (a : Adr) (n : Nat) (hs : slashL s = some k) (hp : parseL (s.take k) = some a) (ht : textR ⟨a, n⟩ = s) : parseR s = some ⟨a, n⟩ := by
  refine (parseR_iff s ⟨a, n⟩).2 ⟨((parseL_iff _ a).1 hp).1, ?_, ht⟩
  refine (textR_ne _ ?_).1
  rw [ht]
  intro e
  rw [e] at hs; cases hs
theorem parseR_no (s : List UInt8) (k : Nat) (a : Adr) (hs : slashL s = some k) (hp : parseL (s.take k) = some a) (hn : ∀ n : Nat, n < 129 → textR ⟨a, n⟩ ≠ s) : parseR s = none := by
  unfold parseR
  simp only [hs, hp]
  rw [List.find?_eq_none.2 (fun n hmem => by simpa using hn n (List.mem_range.1 hmem))]
  rfl
theorem parseR_none1 (s : List UInt8) (hs : slashL s = none) : parseR s = none := by unfold parseR; simp only [hs]
theorem parseR_none2 (s : List UInt8) (k : Nat) (hs : slashL s = some k) (hp : parseL (s.take k) = none) : parseR s = none := by unfold parseR; simp only [hs, hp]
set_option maxHeartbeats 4000000 in
theorem rparse13_any (s : List UInt8) (hs : s.length ≤ 1000) (w : World) :
    Calls Tryz.prog 18 #[.string (bstr s)] w fun e w' => e = .returned (parsR (parseR s)) ∧ Below w.heap.size w w' := by
  have hzs := size_bstr s
  have HE := Lib.hid (fun t => bstr_beq t s)
  obtain ⟨Z, hZ⟩ : ∃ Z, Z = rngV zeroR := ⟨_, rfl⟩
  have hzZ := Lib.hid (show (Tryz.prog.info? 28).map (·.size) = some Z.toArray.size by rw [hZ, List.size_toArray, length_rngV' _ zeroA_ok]; exact size_rng)
  have hZ1 := Lib.hid (show Z.toArray.all (·.oneCell') = true by rw [hZ]; exact rngV_one' _)
  have HZ0 := Lib.hid (show parsR none = .tuple #[.agg Z.toArray, .bool false] by rw [hZ]; rfl)
  have hZl := Lib.hid (show Z.toArray.size = 18 by rw [hZ, List.size_toArray, length_rngV' _ zeroA_ok])
  have hZe := Lib.hid (hZ.trans rngV_zero)
  obtain ⟨w1, hw1⟩ : ∃ w1, w1 = w.alloc (.cells Z.toArray 28) := ⟨_, rfl⟩
  have q1 : Row w1 w.heap.size 28 Z := by rw [hw1]; exact Row.new w _ _
  have hb1 : Below w.heap.size w w1 := by rw [hw1]; exact (Below.refl _ w).alloc (Nat.le_refl _) _
  have HW := Lib.hid (show w1 = w.alloc (.cells #[Value.bool false, .int .u8 0, .int .u8 0, .int .u8 0, .int .u8 0, .int .u8 0, .int .u8 0, .int .u8 0, .int .u8 0, .int .u8 0, .int .u8 0, .int .u8 0, .int .u8 0, .int .u8 0, .int .u8 0, .int .u8 0, .int .u8 0, .int .i64 0] 28) by rw [hw1, hZe.out])
  clear hw1 hZ
  have hno := slashL_none s
  have hat := slashL_at s
  have HNO := Lib.hid hno
  have HAT := Lib.hid hat
  have HIX := Lib.hid (index_bstr s)
  have HCUT := Lib.hid (fun k => (show (bstr s).extract 0 k = bstr (s.take k) by rw [extract_bstr12 s 0 k]; simp))
  clear hno hat
  obtain ⟨S, hS⟩ : ∃ S, S = bstr s := ⟨_, rfl⟩
  rw [← hS] at hzs HIX HCUT HE ⊢
  clear hS
  go_enter Tryz.func18, Tryz.ntmps18
  go_wp2
  rw [← HW.out]
  clear HW
  go_loopw [4] (fun i wr => ∃ k : Nat, k ≤ s.length ∧ i = .int .i64 k ∧ (∀ j, j < k → s.getD j 0 ≠ 47) ∧ Row wr w.heap.size 28 Z ∧ Below w.heap.size w wr) (fun i _ => s.length - (intOf i).toNat)
  case atStart => exact ⟨0, Nat.zero_le _, rfl, fun j hj => by omega, q1, hb1⟩
  case round =>
    clear q1 hb1
    obtain ⟨k, hk, rfl, hz, q1, hb1⟩ := hrel
    by_cases hlt : k < s.length
    · have hlt' : (k : Int) < (s.length : Int) := by omega
      have hix := HIX.out k hlt
      by_cases hx : s.getD k 0 = 47
      · have HSL := Lib.hid (HAT.out k hlt hz hx)
        rw [hx] at hix
        have hix : ∀ w, (Instr.index 9 (.string S) (.int .i64 (k : Int))).run Tryz.prog w = .ok (.int .u8 47) w := hix
        obtain ⟨a, ok, ha, hpe, hpt, hpf⟩ := parsA_out (s.take k)
        have hpr := Lib.hid (fun w' => rparse_any (s.take k) (by rw [List.length_take]; omega) w')
        rw [hpe] at hpr
        have hcut := HCUT.out k
        have HPT := Lib.hid hpt
        have HPF := Lib.hid hpf
        obtain ⟨V, hV⟩ : ∃ V, V = adrV a := ⟨_, rfl⟩
        have hVl := Lib.hid (show V.length = 17 by rw [hV]; exact length_adrV ha)
        have hzV := Lib.hid (show (Tryz.prog.info? 26).map (·.size) = some V.length by rw [hVl.out]; exact size_adr)
        have hzV2 := Lib.hid (show (Tryz.prog.info? 26).map (·.size) = some V.toArray.size by rw [List.size_toArray, hVl.out]; exact size_adr)
        have h17 := Lib.hid (show 17 = V.toArray.size by rw [List.size_toArray, hVl.out])
        have hV1 := Lib.hid (show V.toArray.all (·.oneCell') = true by rw [hV]; exact adrV_one' _)
        have HV := Lib.hid hV
        rw [← hV] at hpr
        have hks : (k : Int) ≤ (s.length : Int) := by omega
        generalize bstr (s.take k) = T at *
        clear hV hz hx HIX HCUT HNO HAT hpt hpf hpe
        go_wp2_with (first
          | (go_at_call 39; refine (hpr.out _).mono ?_; rintro e w2 ⟨rfl, hb2⟩; have q2 := q1.later hb2 q1.lt; have hb2 := hb1.trans (hb2.mono hb1.size))
          | (have _t := hb2; refine wpList_store_row rfl 26 (.tmp 5) (.tmp 24) rfl w2.heap.size V.toArray rfl rfl 26 _ (heap_alloc_new w2 _) hzV2.out h17.out hV1.out ?_; refine Hid.out ?_))
        refine Lib.hid ?_
        generalize hw4 : World.setRow _ _ _ = w4
        obtain ⟨r4, hb4'⟩ := row_new_set (xs := V) hw4
        have q4 := q2.later hb4' q2.lt
        have hb4 := hb2.trans (hb4'.mono hb2.size)
        clear hw4 hb4' q1 q2 hix hcut hpr
        generalize w2.heap.size = g at *
        go_wp2
        go_loopw [7] (fun i wr2 => ∃ n : Nat, n ≤ 129 ∧ i = .int .i64 n ∧ (∀ j : Nat, j < n → textR ⟨a, j⟩ ≠ s) ∧ Row wr2 w.heap.size 28 Z ∧ Row wr2 g 26 V ∧ Below w.heap.size w wr2) (fun i _ => 129 - (intOf i).toNat)
        case atStart => exact ⟨0, Nat.zero_le _, rfl, fun j hj => by omega, q4, r4, hb4⟩
        case round =>
          clear q4 r4 hb4
          obtain ⟨n, hn, rfl, hz, q4, r4, hb4⟩ := hrel
          cases ok with
          | false =>
            have HX := Lib.hid (show parsR (parseR s) = .tuple #[.agg Z.toArray, .bool false] by rw [parseR_none2 s k HSL.out (HPF.out rfl), HZ0.out])
            have Q2 := Lib.hid (show wr.heap[w.heap.size]? = some (.cells Z.toArray 28 (0, 0)) from q4)
            clear hz q4 r4 HPT HPF HSL HE
            go_wp2_with (have _t := Q2; refine wpList_store_row rfl 28 (.tmp 2) (.tmp 41) rfl w.heap.size Z.toArray rfl (by rw [hZe.out]; rfl) 28 Z.toArray Q2.out hzZ.out rfl hZ1.out ?_; refine Hid.out ?_)
            refine Lib.hid ?_
            generalize hw8 : World.setRow _ _ _ = w8
            obtain ⟨r8, hg8⟩ := row_set (show Row wr w.heap.size 28 Z from Q2.out) hw8
            have hb8 := hb4.grown hg8 hb4.size (fun k h => by cases h; exact Nat.le_refl _)
            have R8 := Lib.hid (show w8.heap[w.heap.size]? = some (.cells Z.toArray 28 (0, 0)) from r8)
            clear hw8 r8 hg8 Q2
            go_wp2_with fail
            exact ⟨rfl, _, results_row_tmp rfl _ _ w.heap.size 28 Z.toArray (0, 0) _ rfl R8.out Tryz.underlying28 rfl hzZ.out _ rfl, by rw [HX.out]; rfl, hb8⟩
          | true =>
            have HP := Lib.hid (HPT.out rfl)
            by_cases hlt2 : n ≤ 128
            · have hlt3 : (n : Int) ≤ 128 := by omega
              have hro : (⟨a, (n : Int)⟩ : Rng).Ok := ⟨ha, by show (-9223372036854775808 : Int) ≤ (n : Int); omega, by show (n : Int) ≤ 9223372036854775807; omega⟩
              have htx := Lib.hid (fun w' => rtext13_any ⟨a, n⟩ hro w')
              have heq := HE.out (textR ⟨a, n⟩)
              obtain ⟨X, hX⟩ : ∃ X, X = rngV ⟨a, n⟩ := ⟨_, rfl⟩
              have hXl := length_rngV' _ hro.a
              have hzX := Lib.hid (show (Tryz.prog.info? 28).map (·.size) = some X.length by rw [hX, hXl]; exact size_rng)
              have hzX2 := Lib.hid (show (Tryz.prog.info? 28).map (·.size) = some X.toArray.size by rw [List.size_toArray]; exact hzX.out)
              have h18 := Lib.hid (show 18 = X.toArray.size by rw [hX, List.size_toArray, hXl])
              have hX1 := Lib.hid (show X.toArray.all (·.oneCell') = true by rw [hX]; exact rngV_one' _)
              have hZX := Lib.hid (show Z.toArray.size = X.toArray.size by rw [hZl.out, hX, List.size_toArray, hXl])
              have HXe := Lib.hid (show X = V ++ [Value.int .i64 (n : Int)] by rw [hX, HV.out]; rfl)
              have HXp := Lib.hid (show parsR (some ⟨a, n⟩) = .tuple #[.agg X.toArray, .bool true] by rw [hX]; rfl)
              rw [← hX] at htx
              clear hX hXl hro HE HPT HPF
              by_cases hT : textR ⟨a, n⟩ = s
              · have HX := Lib.hid (show parsR (parseR s) = .tuple #[.agg X.toArray, .bool true] by rw [parseR_at s k a n HSL.out HP.out hT, HXp.out])
                rw [decide_eq_true hT] at heq
                clear hT hz HSL HP HXp
                generalize textR ⟨a, n⟩ = tx at *
                generalize bstr tx = TX at *
                go_wp2_with (first
                  | (with_reducible refine wpList_load_mid rfl 26 (.tmp 5) rfl g 0 rfl V _ (row_range r4) Tryz.underlying26 rfl hzV.out ?_)
                  | (refine wpList_build2 rfl 28 0 1 (.tmp 33) (.tmp 34) rfl (.agg V.toArray) (.int .i64 (n : Int)) (.agg X.toArray) rfl rfl (by rw [HXe.out]; exact build_rng V (n : Int) hVl.out _) ?_)
                  | (refine wpList_store_row rfl 28 (.tmp 8) (.tmp 35) rfl wr.heap.size X.toArray rfl rfl 28 _ (heap_alloc_new wr _) hzX2.out h18.out hX1.out ?_; refine Hid.out ?_))
                refine Lib.hid ?_
                generalize hw6 : World.setRow _ _ _ = w6
                obtain ⟨x6, hb6'⟩ := row_new_set (xs := X) hw6
                have q6 := q4.later hb6' q4.lt
                have r6 := r4.later hb6' r4.lt
                have hb6 := hb4.trans (hb6'.mono hb4.size)
                clear hw6 hb6' q4 r4
                generalize wr.heap.size = g2 at *
                go_wp2_with (first
                  | (with_reducible refine wpList_load_mid rfl 28 (.tmp 8) rfl g2 0 rfl X _ (row_range x6) Tryz.underlying28 rfl hzX.out ?_)
                  | (go_at_call 40; refine (htx.out _).mono ?_; rintro e w7 ⟨rfl, hb7⟩; have x7 := x6.later hb7 x6.lt; have q7 := q6.later hb7 q6.lt; have r7 := r6.later hb7 r6.lt; have hb7 := hb6.trans (hb7.mono hb6.size); clear x6 q6 r6; refine Hid.out ?_))
                refine Lib.hid ?_
                have Q2 := Lib.hid (show w7.heap[w.heap.size]? = some (.cells Z.toArray 28 (0, 0)) from q7)
                clear q7 r7
                go_wp2_with (first
                  | (with_reducible refine wpList_load_mid rfl 28 (.tmp 8) rfl g2 0 rfl X _ (row_range x7) Tryz.underlying28 rfl hzX.out ?_)
                  | (with_reducible refine wpList_store_row rfl 28 (.tmp 2) (.tmp 40) rfl w.heap.size X.toArray rfl rfl 28 Z.toArray Q2.out hzX2.out hZX.out hX1.out ?_; refine Hid.out ?_))
                refine Lib.hid ?_
                generalize hw8 : World.setRow _ _ _ = w8
                obtain ⟨r8, hg8⟩ := row_set (show Row w7 w.heap.size 28 Z from Q2.out) hw8
                have hb8 := hb7.grown hg8 hb7.size (fun k h => by cases h; exact Nat.le_refl _)
                have R8 := Lib.hid (show w8.heap[w.heap.size]? = some (.cells X.toArray 28 (0, 0)) from r8)
                clear hw8 r8 hg8 Q2
                go_wp2_with fail
                exact ⟨rfl, _, results_row_tmp rfl _ _ w.heap.size 28 X.toArray (0, 0) _ rfl R8.out Tryz.underlying28 rfl hzX2.out _ rfl, by rw [HX.out]; rfl, hb8⟩
              · have HZ := Lib.hid (show ∀ j : Nat, j < n + 1 → textR ⟨a, j⟩ ≠ s from fun j hj => by
                  by_cases e : j = n
                  · rw [e]; exact hT
                  · exact hz j (by omega))
                rw [decide_eq_false hT] at heq
                clear hT hz HSL HP HXp
                generalize textR ⟨a, n⟩ = tx at *
                generalize bstr tx = TX at *
                go_wp2_with (first
                  | (with_reducible refine wpList_load_mid rfl 26 (.tmp 5) rfl g 0 rfl V _ (row_range r4) Tryz.underlying26 rfl hzV.out ?_)
                  | (refine wpList_build2 rfl 28 0 1 (.tmp 33) (.tmp 34) rfl (.agg V.toArray) (.int .i64 (n : Int)) (.agg X.toArray) rfl rfl (by rw [HXe.out]; exact build_rng V (n : Int) hVl.out _) ?_)
                  | (refine wpList_store_row rfl 28 (.tmp 8) (.tmp 35) rfl wr.heap.size X.toArray rfl rfl 28 _ (heap_alloc_new wr _) hzX2.out h18.out hX1.out ?_; refine Hid.out ?_))
                refine Lib.hid ?_
                generalize hw6 : World.setRow _ _ _ = w6
                obtain ⟨x6, hb6'⟩ := row_new_set (xs := X) hw6
                have q6 := q4.later hb6' q4.lt
                have r6 := r4.later hb6' r4.lt
                have hb6 := hb4.trans (hb6'.mono hb4.size)
                clear hw6 hb6' q4 r4
                generalize wr.heap.size = g2 at *
                go_wp2_with (first
                  | (with_reducible refine wpList_load_mid rfl 28 (.tmp 8) rfl g2 0 rfl X _ (row_range x6) Tryz.underlying28 rfl hzX.out ?_)
                  | (go_at_call 40; refine (htx.out _).mono ?_; rintro e w7 ⟨rfl, hb7⟩; have x7 := x6.later hb7 x6.lt; have q7 := q6.later hb7 q6.lt; have r7 := r6.later hb7 r6.lt; have hb7 := hb6.trans (hb7.mono hb6.size); clear x6 q6 r6; refine Hid.out ?_))
                refine Lib.hid ?_
                go_wp2
                go_roundw
                case rel => exact ⟨n + 1, by omega, by go_num, HZ.out, q7, r7, hb7⟩
                case measure => simp [intOf]; omega
            · obtain rfl : n = 129 := by omega
              have HX := Lib.hid (show parsR (parseR s) = .tuple #[.agg Z.toArray, .bool false] by rw [parseR_no s k a HSL.out HP.out hz, HZ0.out])
              have Q2 := Lib.hid (show wr.heap[w.heap.size]? = some (.cells Z.toArray 28 (0, 0)) from q4)
              clear hz q4 r4 HPT HPF HSL HE HP
              go_wp2_with (have _t := Q2; refine wpList_store_row rfl 28 (.tmp 2) (.tmp 41) rfl w.heap.size Z.toArray rfl (by rw [hZe.out]; rfl) 28 Z.toArray Q2.out hzZ.out rfl hZ1.out ?_; refine Hid.out ?_)
              refine Lib.hid ?_
              generalize hw8 : World.setRow _ _ _ = w8
              obtain ⟨r8, hg8⟩ := row_set (show Row wr w.heap.size 28 Z from Q2.out) hw8
              have hb8 := hb4.grown hg8 hb4.size (fun k h => by cases h; exact Nat.le_refl _)
              have R8 := Lib.hid (show w8.heap[w.heap.size]? = some (.cells Z.toArray 28 (0, 0)) from r8)
              clear hw8 r8 hg8 Q2
              go_wp2_with fail
              exact ⟨rfl, _, results_row_tmp rfl _ _ w.heap.size 28 Z.toArray (0, 0) _ rfl R8.out Tryz.underlying28 rfl hzZ.out _ rfl, by rw [HX.out]; rfl, hb8⟩
      · have hxe : (((s.getD k 0).toNat : Int) != 47) = true := by
          rw [bne_iff_ne]
          intro h
          exact hx (UInt8.toNat_inj.1 (by show (s.getD k 0).toNat = 47; omega))
        have HZ := Lib.hid (show ∀ j, j < k + 1 → s.getD j 0 ≠ 47 from fun j hj => by
          by_cases e : j = k
          · rw [e]; exact hx
          · exact hz j (by omega))
        generalize s.getD k 0 = x at *
        clear hz hx HIX HCUT HNO HAT
        go_wp2
        go_roundw
        case rel => exact ⟨k + 1, by omega, by go_num, HZ.out, q1, hb1⟩
        case measure => simp [intOf]; omega
    · obtain rfl : k = s.length := by omega
      have HX := Lib.hid (show parsR (parseR s) = .tuple #[.agg Z.toArray, .bool false] by rw [parseR_none1 s (HNO.out hz), HZ0.out])
      have Q2 := Lib.hid (show wr.heap[w.heap.size]? = some (.cells Z.toArray 28 (0, 0)) from q1)
      clear hz HIX HCUT HNO HAT q1
      go_wp2_with (have _t := Q2; refine wpList_store_row rfl 28 (.tmp 2) (.tmp 42) rfl w.heap.size Z.toArray rfl (by rw [hZe.out]; rfl) 28 Z.toArray Q2.out hzZ.out rfl hZ1.out ?_; refine Hid.out ?_)
      refine Lib.hid ?_
      generalize hw8 : World.setRow _ _ _ = w8
      obtain ⟨r8, hg8⟩ := row_set (show Row wr w.heap.size 28 Z from Q2.out) hw8
      have hb8 := hb1.grown hg8 hb1.size (fun k h => by cases h; omega)
      have R8 := Lib.hid (show w8.heap[w.heap.size]? = some (.cells Z.toArray 28 (0, 0)) from r8)
      clear hw8 r8 hg8 Q2
      go_wp2_with fail
      exact ⟨rfl, _, results_row_tmp rfl _ _ w.heap.size 28 Z.toArray (0, 0) _ rfl R8.out Tryz.underlying28 rfl hzZ.out _ rfl, by rw [HX.out]; rfl, hb8⟩
end Go.Proofs.YtgnhmpfoddfpdaaGreatDoor

/- LAYER 17: what the document's Parse goes through: the six predicates that a text may say, as lists. -/
namespace Go.Proofs.YtgnhmpfoddfpdaaGreatDoor
set_option maxRecDepth 100000
open Go Go.RowKit

theorem glue_sum (x : UInt8) (l : List (List UInt8)) (h : l ≠ []) : sumS l = (glueL x l).length + 1 := by
  induction l with
  | nil => exact absurd rfl h
  | cons p l ih =>
    cases l with
    | nil => show (p.length + 1 + 0) = p.length + 1; rfl
    | cons q l =>
      have := ih (by simp)
      show p.length + 1 + sumS (q :: l) = (p ++ x :: glueL x (q :: l)).length + 1
      rw [this, List.length_append, List.length_cons]; omega
theorem names_sum17 (s : List UInt8) (h : s.length ≤ 3999) : sumS ((namesC s).getD []) ≤ 4000 := by
  unfold namesC
  split
  · show sumS (splitL 44 s) ≤ 4000
    have h1 := glue_sum 44 (splitL 44 s) (splitL_ne 44 s)
    rw [glueL_split 44 s] at h1
    omega
  · decide
/-- The six, one by one; where the third one's names lie. -/
theorem cands_len (b : List UInt8) : (candsP b).length = 6 := rfl
def addrQ (A : Option Addr) (c j : Nat) : Option Addr × Nat := if j = 2 then (A, c) else (none, 0)
def candQ (b : List UInt8) (j : Nat) : Prd := (candsP b).getD j zeroP
theorem cand_mem (b : List UInt8) (j : Nat) (h : j < 6) : candQ b j ∈ candsP b := by
  unfold candQ
  rw [List.getD_eq_getElem?_getD, List.getElem?_eq_getElem (by rw [cands_len]; exact h)]
  exact List.getElem_mem _
theorem cand_at (b : List UInt8) (hb : b.length ≤ 600) (A : Option Addr) (c : Nat) (w : World) (hs : Sl w A c (strsV ((namesC b).getD []))) (j : Nat) (h : j < 6) :
    PrdAt w (candQ b j) (addrQ A c j).1 (addrQ A c j).2 := by
  have ho := cands_ok b _ (cand_mem b j h)
  have hn := names_sum17 b (by omega)
  have : j = 0 ∨ j = 1 ∨ j = 2 ∨ j = 3 ∨ j = 4 ∨ j = 5 := by omega
  rcases this with rfl | rfl | rfl | rfl | rfl | rfl
  · exact ⟨ho, sl_none16 w, by show (-9223372036854775808 : Int) ≤ 1; decide, by show (1 : Int) ≤ 9223372036854775807; decide, by show (0 : Nat) ≤ 4000; omega, by show (0 : Nat) ≤ 4000; omega⟩
  · exact ⟨ho, sl_none16 w, by show (-9223372036854775808 : Int) ≤ 2; decide, by show (2 : Int) ≤ 9223372036854775807; decide, by show (0 : Nat) ≤ 4000; omega, by show (0 : Nat) ≤ 4000; omega⟩
  · exact ⟨ho, hs, by show (-9223372036854775808 : Int) ≤ 3; decide, by show (3 : Int) ≤ 9223372036854775807; decide, by show (0 : Nat) ≤ 4000; omega, hn⟩
  · exact ⟨ho, sl_none16 w, by show (-9223372036854775808 : Int) ≤ 4; decide, by show (4 : Int) ≤ 9223372036854775807; decide, by show b.length ≤ 4000; omega, by show (0 : Nat) ≤ 4000; omega⟩
  · exact ⟨ho, sl_none16 w, by show (-9223372036854775808 : Int) ≤ 5; decide, by show (5 : Int) ≤ 9223372036854775807; decide, by show (0 : Nat) ≤ 4000; omega, by show (0 : Nat) ≤ 4000; omega⟩
  · exact ⟨ho, sl_none16 w, by show (-9223372036854775808 : Int) ≤ 6; decide, by show (6 : Int) ≤ 9223372036854775807; decide, by show (0 : Nat) ≤ 4000; omega, by show (0 : Nat) ≤ 4000; omega⟩
theorem cands_six (b : List UInt8) : candQ b 0 = ⟨1, (numberL b).getD 0, [], [], zeroR, 0⟩ ∧ candQ b 1 = ⟨2, (numberL b).getD 0, [], [], zeroR, 0⟩ ∧ candQ b 2 = ⟨3, 0, (namesC b).getD [], [], zeroR, 0⟩ ∧
    candQ b 3 = ⟨4, 0, [], b, zeroR, 0⟩ ∧ candQ b 4 = ⟨5, 0, [], [], (parseR b).getD zeroR, 0⟩ ∧ candQ b 5 = ⟨6, 0, [], [], zeroR, (parseC b).getD 0⟩ := ⟨rfl, rfl, rfl, rfl, rfl, rfl⟩
theorem parsR_out (o : Option Rng) : parsR o = .tuple #[.agg (rngV (o.getD zeroR)).toArray, .bool o.isSome] := by cases o <;> rfl
/-- The first that fits, and none. -/
theorem find_at {α : Type} (f : α → Bool) (z : α) : ∀ (l : List α) (j : Nat), j < l.length → (∀ i < j, f (l.getD i z) = false) → f (l.getD j z) = true → l.find? f = some (l.getD j z)
  | [], j, h, _, _ => absurd h (by simp)
  | a :: l, 0, _, _, h => by
    have h : f a = true := h
    rw [List.find?_cons_of_pos h]; rfl
  | a :: l, j + 1, h, hn, ht => by
    have h0 : f a = false := hn 0 (by omega)
    rw [List.find?_cons_of_neg (by rw [h0]; decide)]
    exact find_at f z l j (by simpa using h) (fun i hi => hn (i + 1) (by omega)) ht
theorem find_no {α : Type} (f : α → Bool) (z : α) (l : List α) (h : ∀ i < l.length, f (l.getD i z) = false) : l.find? f = none := by
  rw [List.find?_eq_none]
  intro a ha
  obtain ⟨i, hi, rfl⟩ := List.mem_iff_getElem.1 ha
  have := h i hi
  rw [List.getD_eq_getElem?_getD, List.getElem?_eq_getElem hi] at this
  have this : f l[i] = false := this
  rw [this]; decide
theorem parse_hit (s : List UInt8) (k j : Nat) (hl : s.length ≤ 512) (hb : blankL s = some k) (hj : j < 6) (hn : ∀ i < j, textP (candQ (s.drop (k + 1)) i) ≠ s) (ht : textP (candQ (s.drop (k + 1)) j) = s) : parseP s = some (candQ (s.drop (k + 1)) j) := by
  unfold parseP
  rw [if_neg (by omega), hb]
  exact find_at _ zeroP _ j hj (fun i hi => decide_eq_false (hn i hi)) (decide_eq_true ht)
theorem parse_miss (s : List UInt8) (k : Nat) (hl : s.length ≤ 512) (hb : blankL s = some k) (hn : ∀ i < 6, textP (candQ (s.drop (k + 1)) i) ≠ s) : parseP s = none := by
  unfold parseP
  rw [if_neg (by omega), hb]
  exact find_no _ zeroP _ fun i hi => decide_eq_false (hn i hi)
theorem parse_long (s : List UInt8) (hl : 512 < s.length) : parseP s = none := by unfold parseP; rw [if_pos hl]
theorem parse_whole (s : List UInt8) (hl : s.length ≤ 512) (hb : blankL s = none) : parseP s = none := by unfold parseP; rw [if_neg (by omega), hb]
/-- What a call answers that reads a predicate: the predicate, where there is one, and whether. -/
def GavePrd (o : Option Prd) (w : World) (e : Ending) (w' : World) : Prop :=
  ∃ (A : Option Addr) (c : Nat), e = .returned (.tuple #[.agg (prdV (o.getD zeroP) A c).toArray, .bool o.isSome]) ∧ PrdAt w' (o.getD zeroP) A c ∧ Below w.heap.size w w'
theorem zero_at (w : World) : PrdAt w zeroP none 0 := ⟨zeroP_ok, sl_none16 w, by decide, by decide, by decide, by decide⟩
theorem PrdAt.apart {w w' : World} {p : Prd} {A : Option Addr} {c g : Nat} (h : PrdAt w p A c) (hg : w.grownBy w' (some g)) (hne : ∀ a, A = some a → a.block ≠ g) : PrdAt w' p A c :=
  ⟨h.ok, h.names.apart hg (fun _ => hne), h.lo, h.hi, h.path, h.sum⟩
theorem addrQ_apart (A : Option Addr) (c j g : Nat) (h : ∀ a, A = some a → a.block ≠ g) : ∀ a, (addrQ A c j).1 = some a → a.block ≠ g := by
  intro a ha
  unfold addrQ at ha
  split at ha
  · exact h a ha
  · cases ha
/-- Names, once more: what it answers lies in no block that was there. -/
def GaveRowF (o : Option (List (List UInt8))) (w : World) (e : Ending) (w' : World) : Prop :=
  ∃ (A : Option Addr) (c : Nat), e = .returned (.tuple #[.slice A (o.getD []).length c, .bool o.isSome]) ∧ Sl w' A c (strsV (o.getD [])) ∧ (∀ g, g < w.heap.size → ∀ a, A = some a → a.block ≠ g) ∧ Below w.heap.size w w'
set_option maxHeartbeats 2000000 in
theorem rnames17_own (s : List UInt8) (hs : s.length ≤ 4000) (w : World) : Calls Tryz.prog 17 #[.string (bstr s)] w (GaveRowF (namesC s) w) := by
  have hz := size_bstr s
  have hsp := Lib.hid (rsplit16_any s 44 hs w)
  have hlen := splitL_len 44 s
  have hri := Lib.hid (fun A c w' => rrise_any (splitL 44 s) (by omega) (fun p hp => by have := splitL_piece 44 s p hp; omega) A c w')
  have HV := Lib.hid (show namesC s = if riseL (splitL 44 s) = true then some (splitL 44 s) else none from rfl)
  generalize namesC s = V at *
  generalize splitL 44 s = ps at *
  cases hr : riseL ps with
  | true =>
    have HW := Lib.hid (HV.out.trans (if_pos hr))
    rw [hr] at hri
    clear HV hr
    go_enter Tryz.func17, Tryz.ntmps17
    go_wp2_with (first
      | (go_at_call 37; refine hsp.out.mono ?_; rintro e w1 ⟨v, rfl, hown, hb1⟩; obtain ⟨A, c, rfl, hpl, hsl⟩ := Sl.of_own hown; have hap := Lib.hid (fun g (hg : g < w.heap.size) a (ha : A = some a) => own_apart hown hg a ha); clear hpl)
      | (go_at_call 38; refine (hri.out A c w1 hsl).mono ?_; rintro e w' ⟨rfl, rfl⟩))
    go_ret2
    exact ⟨A, c, by rw [HW.out]; rfl, by rw [HW.out]; exact hsl, hap.out, hb1⟩
  | false =>
    have HW := Lib.hid (HV.out.trans (if_neg (by rw [hr]; decide)))
    rw [hr] at hri
    clear HV hr
    go_enter Tryz.func17, Tryz.ntmps17
    go_wp2_with (first
      | (go_at_call 37; refine hsp.out.mono ?_; rintro e w1 ⟨v, rfl, hown, hb1⟩; obtain ⟨A, c, rfl, hpl, hsl⟩ := Sl.of_own hown; clear hpl)
      | (go_at_call 38; refine (hri.out A c w1 hsl).mono ?_; rintro e w' ⟨rfl, rfl⟩))
    go_ret2
    exact ⟨none, 0, by rw [HW.out]; rfl, by rw [HW.out]; exact sl_none16 _, fun g _ a ha => (by cases ha), hb1⟩
end Go.Proofs.YtgnhmpfoddfpdaaGreatDoor
