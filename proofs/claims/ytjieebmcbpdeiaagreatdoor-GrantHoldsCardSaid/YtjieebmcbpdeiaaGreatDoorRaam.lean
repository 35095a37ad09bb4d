import Derived.Test.YtjieebmcbpdeiaaGreatDoorRaal
import Derived.Maps.AppendAt
namespace Go.Proofs.YtjieebmcbpdeiaaGreatDoor
set_option maxRecDepth 100000
open Go Go.RowKit
theorem findC_some_at (s : List UInt8) (k : Nat) (h : findC s = some k) : k + 1 < s.length ∧ s.getD k 0 = 58 ∧ s.getD (k + 1) 0 = 58 ∧ ∀ j, j < k → ¬ (s.getD j 0 = 58 ∧ s.getD (j + 1) 0 = 58) := by
 induction s generalizing k with
 | nil => cases h
 | cons c s ih =>
  cases s with
  | nil => cases h
  | cons d s =>
   by_cases hcd : c = 58 ∧ d = 58
   ·rw [show findC (c :: d :: s) = some 0 from if_pos hcd] at h
    cases h
    exact ⟨by simp, hcd.1, hcd.2, fun j hj => absurd hj (by omega)⟩
   ·rw [findC_cons c d s hcd] at h
    obtain ⟨k', hk', rfl⟩ := Option.map_eq_some_iff.1 h
    obtain ⟨h1, h2, h3, h4⟩ := ih k' hk'
    refine ⟨by simpa using h1, h2, h3, fun j hj => ?_⟩
    cases j with
    | zero => exact hcd
    | succ j => exact h4 j (by omega)
theorem numbersL_len (b dg most : Nat) (x : UInt8) (s : List UInt8) (l : List Nat) (m : Nat) (h2 : 2 ≤ b) (hb : b ≤ 16) (h : numbersL b dg most x s = some l) (hs : s.length + 1 ≤ m) : l.length ≤ m := by
 unfold numbersL at h
 by_cases h0 : s = []
 ·rw [if_pos h0] at h; cases h; simp
 ·rw [if_neg h0] at h
  have h1 := congrArg List.length ((goL_iff b dg most h2 hb _ _).1 h).1
  have h3 := splitL_len x s
  rw [List.length_map] at h1
  omega
theorem padL_le (f b : List Nat) (hf : ∀ n ∈ f, n ≤ 65535) (hb : ∀ n ∈ b, n ≤ 65535) : ∀ n ∈ padL f b, n ≤ 65535 := by
 intro n hn
 unfold padL at hn
 rcases List.mem_append.1 hn with h | h
 ·exact hf n h
 ·rcases List.mem_append.1 h with h | h
  ·rw [List.eq_of_mem_replicate h]; omega
  ·exact hb n h
def lenV12 : Value → Nat
 | .slice _ n _ => n
 | _ => 0
theorem sl_keep {w w' : World} {A : Option Addr} {c : Nat} {ob : Option Nat} {xs : List Value} (h : Sl w A c xs) (hg : w.grownBy w' ob) (hne : ∀ a, A = some a → ob ≠ some a.block) : Sl w' A c xs := by
 cases ob with
 | none => exact h.later (Nat.le_refl _) (below_of_grown hg)
 | some g => exact h.apart hg fun _ a ha e => hne a ha (by rw [e])
theorem row_keep {w w' : World} {g t : Nat} {ob : Option Nat} {xs : List Value} (h : Row w g t xs) (hg : w.grownBy w' ob) (hne : ob ≠ some g) : Row w' g t xs :=
 (hg.block g h.lt (Ne.symm hne)).trans h
theorem own_ge {w : World} {base t n g : Nat} {v : Value} {xs : List Value} (h : w.ownsRow base t 1 v n xs) (hv : v.ownBlock = some g) : base ≤ g := by
 obtain ⟨-, h | ⟨g', cap, cur, rfl, hg, -⟩⟩ := h
 ·rw [h.1] at hv; cases hv
 ·have : g' = g := by simpa [Value.ownBlock] using hv
  omega
theorem sl_own {w : World} {base t n : Nat} {v : Value} {xs : List Value} (h : w.ownsRow base t 1 v n xs) : ∃ A c, v = .slice A n c ∧ Sl w A c xs ∧ xs.length = n ∧ ∀ a, A = some a → base ≤ a.block ∧ a.block < w.heap.size := by
 obtain ⟨A, c, rfl, hl, hs⟩ := Sl.of_own h
 refine ⟨A, c, rfl, hs, hl, fun a ha => ?_⟩
 subst ha
 obtain ⟨-, h | ⟨g, cap, cur, e, hg, hgb, -⟩⟩ := h
 ·cases h.1
 ·cases e
  exact ⟨hg, (Array.getElem?_eq_some_iff.1 hgb).1⟩
set_option maxHeartbeats 4000000 in
theorem rparse_cutA (s : List UInt8) (hs : s.length ≤ 1000) (hn : numbersL 10 3 255 46 s = none) (k : Nat) (hf : findC s = some k) (w : World) :
  Calls Tryz.prog 93 #[.string (bstr s)] w fun e w' => e = .returned (parsV (parse6 s)) ∧ Below w.heap.size w w' := by
 have hz := size_bstr s
 have hnum := Lib.hid (fun w' => rnumbers10_any s hs w')
 rw [hn] at hnum
 obtain ⟨hkl, hka, hkb, hkc⟩ := findC_some_at s k hf
 have hnumF := rnumbers16_any (s.take k) (by rw [List.length_take]; omega)
 have hnumB := rnumbers16_any (s.drop (k + 2)) (by rw [List.length_drop]; omega)
 have HP0 := Lib.hid (show parse6 s = match numbersL 16 4 65535 58 (s.take k), numbersL 16 4 65535 58 (s.drop (k + 2)) with
  | some f, some b => if f.length + b.length ≤ 7 ∧ textA (sixA (padL f b)) = s then some (sixA (padL f b)) else none
  | _, _ => none by unfold parse6; rw [hf]; rfl)
 have HC := Lib.hid hkc
 have HA := Lib.hid hka
 have HB := Lib.hid hkb
 have r0 : Row (w.alloc (.cells (adrV zeroA).toArray 26)) w.heap.size 26 (adrV zeroA) := Row.new w _ _
 have hb0 : Below w.heap.size w (w.alloc (.cells (adrV zeroA).toArray 26)) := (Below.refl _ w).alloc (Nat.le_refl _) _
 have hzz := Lib.hid (show (Tryz.prog.info? 26).map (·.size) = some (adrV zeroA).toArray.size by rw [size_adr, List.size_toArray, length_adrV zeroA_ok])
 have HZ1 := Lib.hid (show (adrV zeroA).toArray.all (·.oneCell') = true from all_one (adrV_one _))
 have e1 : (bstr s).extract 0 k = bstr (s.take k) := by rw [extract_bstr12]; simp
 have e2 : (bstr s).extract (k + 2) s.length = bstr (s.drop (k + 2)) := by rw [extract_bstr12, List.take_of_length_le (by rw [List.length_drop]; omega)]
 have HF := Lib.hid hnumF
 have HBk := Lib.hid hnumB
 clear hf hkc hka hkb hnumF hnumB
 have he1 := Lib.hid e1
 have he2 := Lib.hid e2
 clear e1 e2
 go_enter Tryz.func93, Tryz.ntmps93
 go_wp2_with (go_at_call 122; refine (hnum.out _).mono ?_; rintro e w3 ⟨v3, rfl, rfl, hb3⟩; have hr3 := r0.later hb3 r0.lt; have hb3 := hb0.trans (hb3.mono hb0.size))
 clear r0 hb0 hnum
 go_loopw [6, 7] (fun v i wr => ((v = .int .i64 (-1) ∧ ∃ j : Nat, j ≤ k ∧ i = .int .i64 j) ∨ (v = .int .i64 k ∧ i = .int .i64 (k + 1 : Nat))) ∧ Row wr w.heap.size 26 (adrV zeroA) ∧ Below w.heap.size w wr) (fun _ i _ => s.length - (intOf i).toNat)
 case atStart => exact ⟨.inl ⟨rfl, 0, by omega, rfl⟩, hr3, hb3⟩
 case round =>
  clear hr3 hb3
  obtain ⟨h | h, hr4, hb4⟩ := hrel
  ·obtain ⟨rfl, j, hj, rfl⟩ := h
   have hw1 : IntKind.i64.wrap ((j : Int) + 1) = (j : Int) + 1 := by rw [IntKind.wrap_i64]; omega
   have hj2 : j + 1 < s.length := by omega
   have hlt' : (j : Int) + 1 < (s.length : Int) := by omega
   have hix1 := index_bstr s j (by omega)
   have hix2 : ∀ w, (Instr.index 9 (.string (bstr s)) (.int .i64 ((j : Int) + 1))).run Tryz.prog w = .ok (.int .u8 ((s.getD (j + 1) 0).toNat : Int)) w := index_bstr s (j + 1) (by omega)
   by_cases hjk : j = k
   ·subst hjk
    rw [HA.out] at hix1
    rw [HB.out] at hix2
    go_wp2
    go_roundw
    case rel => exact ⟨.inr ⟨rfl, by go_num⟩, hr4, hb4⟩
    case measure => simp [intOf]; omega
   ·have hno := HC.out j (by omega)
    generalize s.getD j 0 = x at *
    generalize s.getD (j + 1) 0 = y at *
    have hj3 : j + 1 ≤ k := by omega
    clear hjk
    by_cases hx : x = 58
    ·have hy : ((y.toNat : Int) == 58) = false := by
      rw [beq_eq_false_iff_ne]
      intro h
      exact hno ⟨hx, UInt8.toNat_inj.1 (by show y.toNat = 58; omega)⟩
     have hxe : ((x.toNat : Int) == 58) = true := by rw [hx]; rfl
     clear hno hx
     go_wp2
     go_roundw
     case rel => exact ⟨.inl ⟨rfl, j + 1, by omega, by go_num⟩, hr4, hb4⟩
     case measure => simp [intOf]; omega
    ·have hxe : ((x.toNat : Int) == 58) = false := by
      rw [beq_eq_false_iff_ne]
      intro h
      exact hx (UInt8.toNat_inj.1 (by show x.toNat = 58; omega))
     clear hno hx
     go_wp2
     go_roundw
     case rel => exact ⟨.inl ⟨rfl, j + 1, by omega, by go_num⟩, hr4, hb4⟩
     case measure => simp [intOf]; omega
  ·obtain ⟨rfl, rfl⟩ := h
   obtain ⟨wo, rfl⟩ : ∃ wo : World, wo = wr := ⟨_, rfl⟩
   have hK1 : (0 : Int) ≤ (k : Int) := by omega
   have hK2 : (k : Int) + 2 ≤ (s.length : Int) := by omega
   have e1 := he1.out
   have e2 := he2.out
   have tok1 : True := trivial
   have tok2 : True := trivial
   clear he1 he2 HA HB HC
   have h3 : (k : Int) + 1 + 1 < (s.length : Int) ∨ (s.length : Int) ≤ (k : Int) + 1 + 1 := by omega
   rcases h3 with h3 | h3
   all_goals
    cases hnF : numbersL 16 4 65535 58 (s.take k) with
    | none =>
     have HP := Lib.hid (show parse6 s = none by rw [HP0.out, hnF])
     have hnumF := Lib.hid (show _ from HF.out)
     rw [hnF] at hnumF
     cases hnB : numbersL 16 4 65535 58 (s.drop (k + 2)) with
     | none =>
      have hnumB := Lib.hid (show _ from HBk.out)
      rw [hnB] at hnumB
      go_wp2_with (first
       | (have _t := tok1; go_at_call 122; refine (hnumF.out _).mono ?_; rintro e w5 ⟨v5, rfl, rfl, hb5⟩; have hr5 := hr4.later hb5 hr4.lt; have hb5 := hb4.trans (hb5.mono hb4.size); clear tok1)
       | (have _t := tok2; go_at_call 122; refine (hnumB.out _).mono ?_; rintro e w7 ⟨v7, rfl, rfl, hb7⟩; have hr7 := hr5.later hb7 hr5.lt; have hb7 := hb5.trans (hb7.mono hb5.size); have HRw7 := Lib.hid (show w7.heap[w.heap.size]? = some (.cells (adrV zeroA).toArray 26 (0, 0)) from hr7); clear tok2)
       | (have _t := HRw7; refine wpList_store_row rfl 26 (.tmp 2) (.tmp 117) rfl w.heap.size _ rfl rfl 26 (adrV zeroA).toArray HRw7.out (by kernel_rfl) (by kernel_rfl) (by kernel_rfl) ?_; refine Hid.out ?_))
      refine Lib.hid ?_
      generalize hw6 : World.setRow _ _ _ = wz
      obtain ⟨r6, hg6⟩ := row_set (show Row w7 w.heap.size 26 (adrV zeroA) from HRw7.out) (show World.setRow _ w.heap.size (adrV zeroA).toArray = wz from hw6)
      have hb6 := hb7.grown hg6 hb7.size (fun k h => by cases h; exact Nat.le_refl _)
      have R6 := Lib.hid (show wz.heap[w.heap.size]? = some (.cells (adrV zeroA).toArray 26 (0, 0)) from r6)
      clear hw6 r6 hg6
      go_wp2_with fail
      exact ⟨rfl, _, results_row_tmp rfl _ _ w.heap.size 26 (adrV zeroA).toArray (0, 0) _ rfl R6.out Tryz.underlying26 rfl hzz.out _ rfl, by rw [HP.out]; rfl, hb6⟩
     | some b =>
      have hnumB := Lib.hid (show _ from HBk.out)
      rw [hnB] at hnumB
      go_wp2_with (first
       | (have _t := tok1; go_at_call 122; refine (hnumF.out _).mono ?_; rintro e w5 ⟨v5, rfl, rfl, hb5⟩; have hr5 := hr4.later hb5 hr4.lt; have hb5 := hb4.trans (hb5.mono hb4.size); clear tok1)
       | (have _t := tok2; go_at_call 122; refine (hnumB.out _).mono ?_; rintro e w7 ⟨v7, rfl, ⟨u7, rfl, ho7⟩, hb7⟩; obtain ⟨A7, c7, rfl, hs7, -, hl7⟩ := sl_own ho7; have hr7 := hr5.later hb7 hr5.lt; have hq7 := hb7; have hb7 := hb5.trans (hb7.mono hb5.size); have HRw7 := Lib.hid (show w7.heap[w.heap.size]? = some (.cells (adrV zeroA).toArray 26 (0, 0)) from hr7); clear tok2)
       | (have _t := HRw7; refine wpList_store_row rfl 26 (.tmp 2) (.tmp 117) rfl w.heap.size _ rfl rfl 26 (adrV zeroA).toArray HRw7.out (by kernel_rfl) (by kernel_rfl) (by kernel_rfl) ?_; refine Hid.out ?_))
      refine Lib.hid ?_
      generalize hw6 : World.setRow _ _ _ = wz
      obtain ⟨r6, hg6⟩ := row_set (show Row w7 w.heap.size 26 (adrV zeroA) from HRw7.out) (show World.setRow _ w.heap.size (adrV zeroA).toArray = wz from hw6)
      have hb6 := hb7.grown hg6 hb7.size (fun k h => by cases h; exact Nat.le_refl _)
      have R6 := Lib.hid (show wz.heap[w.heap.size]? = some (.cells (adrV zeroA).toArray 26 (0, 0)) from r6)
      clear hw6 r6 hg6
      go_wp2_with fail
      exact ⟨rfl, _, results_row_tmp rfl _ _ w.heap.size 26 (adrV zeroA).toArray (0, 0) _ rfl R6.out Tryz.underlying26 rfl hzz.out _ rfl, by rw [HP.out]; rfl, hb6⟩
    | some f =>
     have hnumF := Lib.hid (show _ from HF.out)
     rw [hnF] at hnumF
     cases hnB : numbersL 16 4 65535 58 (s.drop (k + 2)) with
     | none =>
      have HP := Lib.hid (show parse6 s = none by rw [HP0.out, hnF, hnB])
      have hnumB := Lib.hid (show _ from HBk.out)
      rw [hnB] at hnumB
      go_wp2_with (first
       | (have _t := tok1; go_at_call 122; refine (hnumF.out _).mono ?_; rintro e w5 ⟨v5, rfl, ⟨u5, rfl, ho5⟩, hb5⟩; obtain ⟨A5, c5, rfl, hs5, -, hl5⟩ := sl_own ho5; have hr5 := hr4.later hb5 hr4.lt; have hq5 := hb5; have hb5 := hb4.trans (hb5.mono hb4.size); clear tok1)
       | (have _t := tok2; go_at_call 122; refine (hnumB.out _).mono ?_; rintro e w7 ⟨v7, rfl, rfl, hb7⟩; have hr7 := hr5.later hb7 hr5.lt; have hb7 := hb5.trans (hb7.mono hb5.size); have HRw7 := Lib.hid (show w7.heap[w.heap.size]? = some (.cells (adrV zeroA).toArray 26 (0, 0)) from hr7); clear tok2)
       | (have _t := HRw7; refine wpList_store_row rfl 26 (.tmp 2) (.tmp 117) rfl w.heap.size _ rfl rfl 26 (adrV zeroA).toArray HRw7.out (by kernel_rfl) (by kernel_rfl) (by kernel_rfl) ?_; refine Hid.out ?_))
      refine Lib.hid ?_
      generalize hw6 : World.setRow _ _ _ = wz
      obtain ⟨r6, hg6⟩ := row_set (show Row w7 w.heap.size 26 (adrV zeroA) from HRw7.out) (show World.setRow _ w.heap.size (adrV zeroA).toArray = wz from hw6)
      have hb6 := hb7.grown hg6 hb7.size (fun k h => by cases h; exact Nat.le_refl _)
      have R6 := Lib.hid (show wz.heap[w.heap.size]? = some (.cells (adrV zeroA).toArray 26 (0, 0)) from r6)
      clear hw6 r6 hg6
      go_wp2_with fail
      exact ⟨rfl, _, results_row_tmp rfl _ _ w.heap.size 26 (adrV zeroA).toArray (0, 0) _ rfl R6.out Tryz.underlying26 rfl hzz.out _ rfl, by rw [HP.out]; rfl, hb6⟩
     | some b =>
      have hnumB := Lib.hid (show _ from HBk.out)
      rw [hnB] at hnumB
      have hfl : f.length ≤ s.length := numbersL_len 16 4 65535 58 (s.take k) f s.length (by omega) (by omega) hnF (by rw [List.length_take]; omega)
      have hbl : b.length ≤ s.length := numbersL_len 16 4 65535 58 (s.drop (k + 2)) b s.length (by omega) (by omega) hnB (by rw [List.length_drop]; omega)
      by_cases h7 : f.length + b.length ≤ 7
      ·obtain ⟨pd, hpd⟩ : ∃ pd, pd = padL f b := ⟨_, rfl⟩
       have hpl : pd.length = 8 := by rw [hpd]; exact padL_len f b h7
       have hpm : ∀ n ∈ pd, n ≤ 65535 := by rw [hpd]; exact padL_le f b (fun n hn => (((numbersL_iff 16 4 65535 58 (by omega) (by omega) (.inr rfl) _ f).1 hnF).2 n hn).1) (fun n hn => (((numbersL_iff 16 4 65535 58 (by omega) (by omega) (.inr rfl) _ b).1 hnB).2 n hn).1)
       have HP1 := Lib.hid (show parse6 s = if textA (sixA pd) = s then some (sixA pd) else none by
        rw [HP0.out, hnF, hnB, hpd]
        by_cases he : textA (sixA (padL f b)) = s
        ·rw [if_pos he]; exact if_pos ⟨h7, he⟩
        ·rw [if_neg he]; exact if_neg (fun h => he h.2))
       have HPD := Lib.hid (show ∀ j, f.length + j + b.length = 8 → intsV (f ++ List.replicate j 0) ++ intsV b = intsV pd by
        intro j hj
        rw [hpd, ← intsV_append, List.append_assoc]
        unfold padL
        rw [show 8 - (f.length + b.length) = j by omega])
       have hsx := Lib.hid (fun A c w' (hs : Sl w' A c (intsV pd)) => rsix_any pd hpl hpm A c w' hs)
       have htx := Lib.hid (fun w' => rtextA_any (sixA pd) (sixA_ok pd hpl) w')
       have h7' : (f.length : Int) + (b.length : Int) ≤ 7 := by omega
       have hok6 := sixA_ok pd hpl
       obtain ⟨V, hV⟩ : ∃ V, V = adrV (sixA pd) := ⟨_, rfl⟩
       have hVl : V.length = 17 := by rw [hV]; exact length_adrV hok6
       have hVz := Lib.hid (show (Tryz.prog.info? 26).map (·.size) = some V.toArray.size by rw [size_adr, List.size_toArray, hVl])
       have hVs := Lib.hid (show (adrV zeroA).toArray.size = V.toArray.size by rw [List.size_toArray, List.size_toArray, length_adrV zeroA_ok, hVl])
       have hV1 := Lib.hid (show V.toArray.all (·.oneCell') = true from all_one (by rw [hV]; exact adrV_one _))
       have h17 := Lib.hid (show 17 = V.toArray.size by rw [List.size_toArray, hVl])
       have HV := Lib.hid hV
       rw [← hV] at hsx htx
       clear hV hVl hok6 hpd hpl hpm hnF hnB HP0 HF HBk
       obtain ⟨i0, hi, hz0, hz1, hz2⟩ := info_parts infoInt12
       go_wp2_with (first
        | (have _t := tok1; go_at_call 122; refine (hnumF.out _).mono ?_; rintro e w5 ⟨v5, rfl, ⟨u5, rfl, ho5⟩, hb5⟩; obtain ⟨A5, c5, rfl, hs5, -, hl5⟩ := sl_own ho5; have hr5 := hr4.later hb5 hr4.lt; have hq5 := hb5; have hb5 := hb4.trans (hb5.mono hb4.size); clear tok1)
        | (have _t := tok2; go_at_call 122; refine (hnumB.out _).mono ?_; rintro e w7 ⟨v7, rfl, ⟨u7, rfl, ho7⟩, hb7⟩; obtain ⟨A7, c7, rfl, hs7, -, hl7⟩ := sl_own ho7; have hr7 := hr5.later hb7 hr5.lt; have hq7 := hb7; have hb7 := hb5.trans (hb7.mono hb5.size); have HRw7 := Lib.hid (show w7.heap[w.heap.size]? = some (.cells (adrV zeroA).toArray 26 (0, 0)) from hr7); clear tok2))
       go_loopw [8] (fun v wq => ∃ (j : Nat) (A : Option Addr) (c : Nat), f.length + j + b.length ≤ 8 ∧ v = .slice A (f.length + j) c ∧ wq.ownsRow wo.heap.size 3 1 (.slice A (f.length + j) c) (f.length + j) (intsV (f ++ List.replicate j 0)) ∧ (∀ a, A = some a → a.block < w5.heap.size ∨ w7.heap.size ≤ a.block) ∧ Sl wq A7 c7 (intsV b) ∧ w7.heap.size ≤ wq.heap.size ∧ Row wq w.heap.size 26 (adrV zeroA) ∧ Below w.heap.size w wq) (fun v _ => 8 - lenV12 v)
       case atStart =>
        refine ⟨0, A5, c5, by omega, rfl, ?_, fun a ha => .inl (hl5 a ha).2, hs7, Nat.le_refl _, hr7, hb7⟩
        rw [List.replicate_zero, List.append_nil]
        exact own_later ho5 hq7 (Nat.le_refl _)
       case round =>
        have hwo : wo.heap.size ≤ w7.heap.size := Nat.le_trans hq5.size hq7.size
        have hww : w.heap.size < wo.heap.size := hr4.lt
        clear hr7 hb7 hs7 HRw7
        obtain ⟨j, A, c, hj8, rfl, hown, hblk, hs7, hwq, hrq, hbq⟩ := hrel
        by_cases hlt : f.length + j + b.length < 8
        ·have hlt' : (f.length : Int) + (j : Int) + (b.length : Int) < 8 := by omega
         have n1 : f.length + j + 1 ≤ maxLen := by unfold maxLen; omega
         have n2 : (f.length + j + 1) * 8 ≤ 140737488355328 := by omega
         go_wp2_with (at_builtin; have howna := hown.alloc (.cells #[.int .i64 0] 3); have hs7a := hs7.later (Nat.le_refl _) ((Below.refl _ wr).alloc (Nat.le_refl _) (.cells #[.int .i64 0] 3)); have hrqa := hrq.later ((Below.refl _ wr).alloc (Nat.le_refl _) (.cells #[.int .i64 0] 3)) hrq.lt; have hbqa := hbq.alloc hbq.size (.cells #[.int .i64 0] 3); refine wpList_append_own_at _ rfl (.tmp 124) (.tmp 125) 134 rfl wo.heap.size 3 i0 _ 1 8 Tryz.underlying134 hi hz0 hz1 hz2 rfl (by decide) _ (f.length + j) _ rfl howna ⟨wr.heap.size, 0, none⟩ 1 1 [.int .i64 0] rfl rfl (cells_new wr _ _) (by simp [Value.oneCell']) n1 n2 (by rw [World.size_alloc]; omega) ?_; intro v8 w8 hown8 hg8 _ hwh)
         obtain ⟨A8, c8, rfl, -, -, -⟩ := sl_own hown8
         have hwh : (Value.slice A8 (f.length + j + 1) c8).ownBlock = (Value.slice A (f.length + j) c).ownBlock ∨ (Value.slice A8 (f.length + j + 1) c8).ownBlock = some (wr.alloc (.cells #[.int .i64 0] 3)).heap.size := hwh
         have hne7 : ∀ a, A7 = some a → (Value.slice A (f.length + j) c).ownBlock ≠ some a.block := by
          intro a ha e
          have h1 := hl7 a ha
          cases A with
          | none => cases e
          | some a2 =>
           have e : a2.block = a.block := by simpa [Value.ownBlock] using e
           have := hblk a2 rfl
           omega
         have hs8 := sl_keep hs7a hg8 hne7
         have hr8 := row_keep hrqa hg8 (fun e => by have := own_ge hown e; omega)
         have hb8 := hbqa.grown hg8 hbqa.size (fun g e => by have := own_ge hown e; omega)
         have hsz8 := hg8.size
         rw [World.size_alloc] at hsz8 hwh
         have hblk8 : ∀ a, A8 = some a → a.block < w5.heap.size ∨ w7.heap.size ≤ a.block := by
          intro a ha
          subst ha
          rcases hwh with h | h
          ·cases A with
           | none => cases h
           | some a2 =>
            have e : a.block = a2.block := by simpa [Value.ownBlock] using h
            have := hblk a2 rfl
            rw [e]; exact this
          ·have e : a.block = wr.heap.size + 1 := by simpa [Value.ownBlock] using h
           omega
         have eX : intsV (f ++ List.replicate j 0) ++ [.int .i64 0] = intsV (f ++ List.replicate (j + 1) 0) := by
          rw [List.replicate_succ', ← List.append_assoc, intsV_append (f ++ List.replicate j 0)]; rfl
         rw [eX] at hown8
         clear hwh hg8 hne7 hblk hown howna eX
         go_wp2
         go_roundw
         case rel => exact ⟨j + 1, A8, c8, by omega, rfl, hown8, hblk8, hs8, by omega, hr8, hb8⟩
         case measure => simp [lenV12]; omega
        ·have he8 : f.length + j + b.length = 8 := by omega
         have hge' : (8 : Int) ≤ (f.length : Int) + (j : Int) + (b.length : Int) := by omega
         have tok3 : True := trivial
         by_cases he : textA (sixA pd) = s
         ·have HP := Lib.hid (show parse6 s = some (sixA pd) by rw [HP1.out, if_pos he])
          have htl : ((bstr (textA (sixA pd))).toList == (bstr s).toList) = true := by rw [bstr_beq]; exact decide_eq_true he
          clear he HP1
          generalize textA (sixA pd) = X at *
          go_wp2_with (first
           | (have _t := tok3; at_builtin; refine wpList_append_sl rfl (.tmp 127) (.tmp 128) 134 rfl wo.heap.size 3 i0 _ 8 Tryz.underlying134 hi hz0 hz1 hz2 rfl _ _ _ rfl hown A7 b.length c7 (intsV b) rfl (by rw [length_intsV]) hs7 (intsV_one _) (by unfold maxLen; omega) (by omega) (Nat.le_trans hwo hwq) ?_; intro v8 w8 hown8 hg8; clear tok3; rw [HPD.out j he8, he8] at hown8; obtain ⟨A8, c8, rfl, hs8, -, -⟩ := sl_own hown8; have hr8 := row_keep hrq hg8 (fun e => by have := own_ge hown e; omega); have hb8 := hbq.grown hg8 hbq.size (fun g e => by have := own_ge hown e; omega); clear hown8 hg8 hown hs7)
           | (go_at_call 124; refine (hsx.out A8 c8 _ hs8).mono ?_; rintro e w8' ⟨rfl, hb8'⟩; have hr8 := hr8.later hb8' hr8.lt; have hb8 := hb8.trans (hb8'.mono hb8.size); obtain ⟨w8, rfl⟩ : ∃ x : World, x = w8' := ⟨_, rfl⟩; clear hs8 hb8')
           | (have _t := hr8; refine wpList_store_row rfl 26 (.tmp 11) (.tmp 130) rfl w8.heap.size V.toArray rfl rfl 26 _ (heap_alloc_new w8 _) hVz.out h17.out hV1.out ?_; refine Hid.out ?_))
          refine Lib.hid ?_
          generalize hw9 : World.setRow _ _ _ = w9
          obtain ⟨r9, hb9'⟩ := row_new_set hw9
          have r9b := hr8.later hb9' hr8.lt
          have hb9 := hb8.trans (hb9'.mono hb8.size)
          have HR9 := Lib.hid (show w9.heap[w8.heap.size]? = some (.cells V.toArray 26 (0, 0)) from r9)
          clear hw9 hb9'
          have tok4 : True := trivial
          go_wp2_with (first
           | (have _t := tok4; with_reducible refine wpList_load_row rfl 26 (.tmp 11) rfl w8.heap.size rfl 26 V.toArray (0, 0) _ HR9.out Tryz.underlying26 rfl hVz.out ?_; clear tok4)
           | (go_at_call 123; refine (htx.out _).mono ?_; rintro e w10 ⟨rfl, hb10⟩; have r10 := r9.later hb10 r9.lt; have r10b := r9b.later hb10 r9b.lt; have hb10 := hb9.trans (hb10.mono hb9.size); have HR10 := Lib.hid (show w10.heap[w8.heap.size]? = some (.cells V.toArray 26 (0, 0)) from r10); have H10 := Lib.hid (show w10.heap[w.heap.size]? = some (.cells (adrV zeroA).toArray 26 (0, 0)) from r10b); clear r9 r9b r10 r10b)
           | (with_reducible refine wpList_load_row rfl 26 (.tmp 11) rfl w8.heap.size rfl 26 V.toArray (0, 0) _ HR10.out Tryz.underlying26 rfl hVz.out ?_)
           | (with_reducible refine wpList_store_row rfl 26 (.tmp 2) (.tmp 136) rfl w.heap.size V.toArray rfl rfl 26 (adrV zeroA).toArray H10.out hVz.out hVs.out hV1.out ?_; refine Hid.out ?_))
          refine Lib.hid ?_
          generalize hw11 : World.setRow _ _ _ = w11
          obtain ⟨r11, hg11⟩ := row_set (show Row w10 w.heap.size 26 (adrV zeroA) from H10.out) (show World.setRow _ w.heap.size V.toArray = w11 from hw11)
          have hb11 := hb10.grown hg11 hb10.size (fun k h => by cases h; exact Nat.le_refl _)
          have R11 := Lib.hid (show w11.heap[w.heap.size]? = some (.cells V.toArray 26 (0, 0)) from r11)
          clear hw11 r11 hg11 H10 HR10
          go_wp2_with fail
          exact ⟨rfl, _, results_row_tmp rfl _ _ w.heap.size 26 V.toArray (0, 0) _ rfl R11.out Tryz.underlying26 rfl hVz.out _ rfl, by rw [HP.out]; rw [HV.out]; rfl, hb11⟩
         ·have HP := Lib.hid (show parse6 s = none by rw [HP1.out, if_neg he])
          have htl : ((bstr (textA (sixA pd))).toList == (bstr s).toList) = false := by rw [bstr_beq]; exact decide_eq_false he
          clear he HP1
          generalize textA (sixA pd) = X at *
          go_wp2_with (first
           | (have _t := tok3; at_builtin; refine wpList_append_sl rfl (.tmp 127) (.tmp 128) 134 rfl wo.heap.size 3 i0 _ 8 Tryz.underlying134 hi hz0 hz1 hz2 rfl _ _ _ rfl hown A7 b.length c7 (intsV b) rfl (by rw [length_intsV]) hs7 (intsV_one _) (by unfold maxLen; omega) (by omega) (Nat.le_trans hwo hwq) ?_; intro v8 w8 hown8 hg8; clear tok3; rw [HPD.out j he8, he8] at hown8; obtain ⟨A8, c8, rfl, hs8, -, -⟩ := sl_own hown8; have hr8 := row_keep hrq hg8 (fun e => by have := own_ge hown e; omega); have hb8 := hbq.grown hg8 hbq.size (fun g e => by have := own_ge hown e; omega); clear hown8 hg8 hown hs7)
           | (go_at_call 124; refine (hsx.out A8 c8 _ hs8).mono ?_; rintro e w8' ⟨rfl, hb8'⟩; have hr8 := hr8.later hb8' hr8.lt; have hb8 := hb8.trans (hb8'.mono hb8.size); obtain ⟨w8, rfl⟩ : ∃ x : World, x = w8' := ⟨_, rfl⟩; clear hs8 hb8')
           | (have _t := hr8; refine wpList_store_row rfl 26 (.tmp 11) (.tmp 130) rfl w8.heap.size V.toArray rfl rfl 26 _ (heap_alloc_new w8 _) hVz.out h17.out hV1.out ?_; refine Hid.out ?_))
          refine Lib.hid ?_
          generalize hw9 : World.setRow _ _ _ = w9
          obtain ⟨r9, hb9'⟩ := row_new_set hw9
          have r9b := hr8.later hb9' hr8.lt
          have hb9 := hb8.trans (hb9'.mono hb8.size)
          have HR9 := Lib.hid (show w9.heap[w8.heap.size]? = some (.cells V.toArray 26 (0, 0)) from r9)
          clear hw9 hb9'
          have tok4 : True := trivial
          go_wp2_with (first
           | (have _t := tok4; with_reducible refine wpList_load_row rfl 26 (.tmp 11) rfl w8.heap.size rfl 26 V.toArray (0, 0) _ HR9.out Tryz.underlying26 rfl hVz.out ?_; clear tok4)
           | (go_at_call 123; refine (htx.out _).mono ?_; rintro e w10 ⟨rfl, hb10⟩; have r10 := r9.later hb10 r9.lt; have r10b := r9b.later hb10 r9b.lt; have hb10 := hb9.trans (hb10.mono hb9.size); have HR10 := Lib.hid (show w10.heap[w8.heap.size]? = some (.cells V.toArray 26 (0, 0)) from r10); have H10 := Lib.hid (show w10.heap[w.heap.size]? = some (.cells (adrV zeroA).toArray 26 (0, 0)) from r10b); clear r9 r9b r10 r10b)
           | (have _t := H10; refine wpList_store_row rfl 26 (.tmp 2) (.tmp 135) rfl w.heap.size _ rfl rfl 26 (adrV zeroA).toArray H10.out (by kernel_rfl) (by kernel_rfl) (by kernel_rfl) ?_; refine Hid.out ?_))
          refine Lib.hid ?_
          generalize hw11 : World.setRow _ _ _ = w11
          obtain ⟨r11, hg11⟩ := row_set (show Row w10 w.heap.size 26 (adrV zeroA) from H10.out) (show World.setRow _ w.heap.size (adrV zeroA).toArray = w11 from hw11)
          have hb11 := hb10.grown hg11 hb10.size (fun k h => by cases h; exact Nat.le_refl _)
          have R11 := Lib.hid (show w11.heap[w.heap.size]? = some (.cells (adrV zeroA).toArray 26 (0, 0)) from r11)
          clear hw11 r11 hg11 H10 HR10
          go_wp2_with fail
          exact ⟨rfl, _, results_row_tmp rfl _ _ w.heap.size 26 (adrV zeroA).toArray (0, 0) _ rfl R11.out Tryz.underlying26 rfl hzz.out _ rfl, by rw [HP.out]; rfl, hb11⟩
      ·have HP := Lib.hid (show parse6 s = none by rw [HP0.out, hnF, hnB]; exact if_neg (fun h => h7 h.1))
       have h7' : (7 : Int) < (f.length : Int) + (b.length : Int) := by omega
       go_wp2_with (first
        | (have _t := tok1; go_at_call 122; refine (hnumF.out _).mono ?_; rintro e w5 ⟨v5, rfl, ⟨u5, rfl, ho5⟩, hb5⟩; obtain ⟨A5, c5, rfl, hs5, -, hl5⟩ := sl_own ho5; have hr5 := hr4.later hb5 hr4.lt; have hq5 := hb5; have hb5 := hb4.trans (hb5.mono hb4.size); clear tok1)
        | (have _t := tok2; go_at_call 122; refine (hnumB.out _).mono ?_; rintro e w7 ⟨v7, rfl, ⟨u7, rfl, ho7⟩, hb7⟩; obtain ⟨A7, c7, rfl, hs7, -, hl7⟩ := sl_own ho7; have hr7 := hr5.later hb7 hr5.lt; have hq7 := hb7; have hb7 := hb5.trans (hb7.mono hb5.size); have HRw7 := Lib.hid (show w7.heap[w.heap.size]? = some (.cells (adrV zeroA).toArray 26 (0, 0)) from hr7); clear tok2)
        | (have _t := HRw7; refine wpList_store_row rfl 26 (.tmp 2) (.tmp 117) rfl w.heap.size _ rfl rfl 26 (adrV zeroA).toArray HRw7.out (by kernel_rfl) (by kernel_rfl) (by kernel_rfl) ?_; refine Hid.out ?_))
       refine Lib.hid ?_
       generalize hw6 : World.setRow _ _ _ = wz
       obtain ⟨r6, hg6⟩ := row_set (show Row w7 w.heap.size 26 (adrV zeroA) from HRw7.out) (show World.setRow _ w.heap.size (adrV zeroA).toArray = wz from hw6)
       have hb6 := hb7.grown hg6 hb7.size (fun k h => by cases h; exact Nat.le_refl _)
       have R6 := Lib.hid (show wz.heap[w.heap.size]? = some (.cells (adrV zeroA).toArray 26 (0, 0)) from r6)
       clear hw6 r6 hg6
       go_wp2_with fail
       exact ⟨rfl, _, results_row_tmp rfl _ _ w.heap.size 26 (adrV zeroA).toArray (0, 0) _ rfl R6.out Tryz.underlying26 rfl hzz.out _ rfl, by rw [HP.out]; rfl, hb6⟩
set_option maxHeartbeats 4000000 in
theorem rparse_cutB (s : List UInt8) (hs : s.length ≤ 1000) (l0 : List Nat) (hn : numbersL 10 3 255 46 s = some l0) (h40 : l0.length ≠ 4) (k : Nat) (hf : findC s = some k) (w : World) :
  Calls Tryz.prog 93 #[.string (bstr s)] w fun e w' => e = .returned (parsV (parse6 s)) ∧ Below w.heap.size w w' := by
 have hz := size_bstr s
 have hnum := Lib.hid (fun w' => rnumbers10_any s hs w')
 rw [hn] at hnum
 obtain ⟨hkl, hka, hkb, hkc⟩ := findC_some_at s k hf
 have hnumF := rnumbers16_any (s.take k) (by rw [List.length_take]; omega)
 have hnumB := rnumbers16_any (s.drop (k + 2)) (by rw [List.length_drop]; omega)
 have HP0 := Lib.hid (show parse6 s = match numbersL 16 4 65535 58 (s.take k), numbersL 16 4 65535 58 (s.drop (k + 2)) with
  | some f, some b => if f.length + b.length ≤ 7 ∧ textA (sixA (padL f b)) = s then some (sixA (padL f b)) else none
  | _, _ => none by unfold parse6; rw [hf]; rfl)
 have HC := Lib.hid hkc
 have HA := Lib.hid hka
 have HB := Lib.hid hkb
 have r0 : Row (w.alloc (.cells (adrV zeroA).toArray 26)) w.heap.size 26 (adrV zeroA) := Row.new w _ _
 have hb0 : Below w.heap.size w (w.alloc (.cells (adrV zeroA).toArray 26)) := (Below.refl _ w).alloc (Nat.le_refl _) _
 have hzz := Lib.hid (show (Tryz.prog.info? 26).map (·.size) = some (adrV zeroA).toArray.size by rw [size_adr, List.size_toArray, length_adrV zeroA_ok])
 have HZ1 := Lib.hid (show (adrV zeroA).toArray.all (·.oneCell') = true from all_one (adrV_one _))
 have e1 : (bstr s).extract 0 k = bstr (s.take k) := by rw [extract_bstr12]; simp
 have e2 : (bstr s).extract (k + 2) s.length = bstr (s.drop (k + 2)) := by rw [extract_bstr12, List.take_of_length_le (by rw [List.length_drop]; omega)]
 have h4' : ((l0.length : Int) == 4) = false := by rw [beq_eq_false_iff_ne]; omega
 have HF := Lib.hid hnumF
 have HBk := Lib.hid hnumB
 clear hf hkc hka hkb hnumF hnumB
 have he1 := Lib.hid e1
 have he2 := Lib.hid e2
 clear e1 e2
 go_enter Tryz.func93, Tryz.ntmps93
 go_wp2_with (go_at_call 122; refine (hnum.out _).mono ?_; rintro e w3 ⟨v3, rfl, ⟨u0, rfl, hown0⟩, hb3⟩; obtain ⟨A0, c0, rfl, -, -⟩ := Sl.of_own hown0; clear hown0; have hr3 := r0.later hb3 r0.lt; have hb3 := hb0.trans (hb3.mono hb0.size))
 clear r0 hb0 hnum
 go_loopw [6, 7] (fun v i wr => ((v = .int .i64 (-1) ∧ ∃ j : Nat, j ≤ k ∧ i = .int .i64 j) ∨ (v = .int .i64 k ∧ i = .int .i64 (k + 1 : Nat))) ∧ Row wr w.heap.size 26 (adrV zeroA) ∧ Below w.heap.size w wr) (fun _ i _ => s.length - (intOf i).toNat)
 case atStart => exact ⟨.inl ⟨rfl, 0, by omega, rfl⟩, hr3, hb3⟩
 case round =>
  clear hr3 hb3
  obtain ⟨h | h, hr4, hb4⟩ := hrel
  ·obtain ⟨rfl, j, hj, rfl⟩ := h
   have hw1 : IntKind.i64.wrap ((j : Int) + 1) = (j : Int) + 1 := by rw [IntKind.wrap_i64]; omega
   have hj2 : j + 1 < s.length := by omega
   have hlt' : (j : Int) + 1 < (s.length : Int) := by omega
   have hix1 := index_bstr s j (by omega)
   have hix2 : ∀ w, (Instr.index 9 (.string (bstr s)) (.int .i64 ((j : Int) + 1))).run Tryz.prog w = .ok (.int .u8 ((s.getD (j + 1) 0).toNat : Int)) w := index_bstr s (j + 1) (by omega)
   by_cases hjk : j = k
   ·subst hjk
    rw [HA.out] at hix1
    rw [HB.out] at hix2
    go_wp2
    go_roundw
    case rel => exact ⟨.inr ⟨rfl, by go_num⟩, hr4, hb4⟩
    case measure => simp [intOf]; omega
   ·have hno := HC.out j (by omega)
    generalize s.getD j 0 = x at *
    generalize s.getD (j + 1) 0 = y at *
    have hj3 : j + 1 ≤ k := by omega
    clear hjk
    by_cases hx : x = 58
    ·have hy : ((y.toNat : Int) == 58) = false := by
      rw [beq_eq_false_iff_ne]
      intro h
      exact hno ⟨hx, UInt8.toNat_inj.1 (by show y.toNat = 58; omega)⟩
     have hxe : ((x.toNat : Int) == 58) = true := by rw [hx]; rfl
     clear hno hx
     go_wp2
     go_roundw
     case rel => exact ⟨.inl ⟨rfl, j + 1, by omega, by go_num⟩, hr4, hb4⟩
     case measure => simp [intOf]; omega
    ·have hxe : ((x.toNat : Int) == 58) = false := by
      rw [beq_eq_false_iff_ne]
      intro h
      exact hx (UInt8.toNat_inj.1 (by show x.toNat = 58; omega))
     clear hno hx
     go_wp2
     go_roundw
     case rel => exact ⟨.inl ⟨rfl, j + 1, by omega, by go_num⟩, hr4, hb4⟩
     case measure => simp [intOf]; omega
  ·obtain ⟨rfl, rfl⟩ := h
   obtain ⟨wo, rfl⟩ : ∃ wo : World, wo = wr := ⟨_, rfl⟩
   have hK1 : (0 : Int) ≤ (k : Int) := by omega
   have hK2 : (k : Int) + 2 ≤ (s.length : Int) := by omega
   have e1 := he1.out
   have e2 := he2.out
   have tok1 : True := trivial
   have tok2 : True := trivial
   clear he1 he2 HA HB HC
   have h3 : (k : Int) + 1 + 1 < (s.length : Int) ∨ (s.length : Int) ≤ (k : Int) + 1 + 1 := by omega
   rcases h3 with h3 | h3
   all_goals
    cases hnF : numbersL 16 4 65535 58 (s.take k) with
    | none =>
     have HP := Lib.hid (show parse6 s = none by rw [HP0.out, hnF])
     have hnumF := Lib.hid (show _ from HF.out)
     rw [hnF] at hnumF
     cases hnB : numbersL 16 4 65535 58 (s.drop (k + 2)) with
     | none =>
      have hnumB := Lib.hid (show _ from HBk.out)
      rw [hnB] at hnumB
      go_wp2_with (first
       | (have _t := tok1; go_at_call 122; refine (hnumF.out _).mono ?_; rintro e w5 ⟨v5, rfl, rfl, hb5⟩; have hr5 := hr4.later hb5 hr4.lt; have hb5 := hb4.trans (hb5.mono hb4.size); clear tok1)
       | (have _t := tok2; go_at_call 122; refine (hnumB.out _).mono ?_; rintro e w7 ⟨v7, rfl, rfl, hb7⟩; have hr7 := hr5.later hb7 hr5.lt; have hb7 := hb5.trans (hb7.mono hb5.size); have HRw7 := Lib.hid (show w7.heap[w.heap.size]? = some (.cells (adrV zeroA).toArray 26 (0, 0)) from hr7); clear tok2)
       | (have _t := HRw7; refine wpList_store_row rfl 26 (.tmp 2) (.tmp 117) rfl w.heap.size _ rfl rfl 26 (adrV zeroA).toArray HRw7.out (by kernel_rfl) (by kernel_rfl) (by kernel_rfl) ?_; refine Hid.out ?_))
      refine Lib.hid ?_
      generalize hw6 : World.setRow _ _ _ = wz
      obtain ⟨r6, hg6⟩ := row_set (show Row w7 w.heap.size 26 (adrV zeroA) from HRw7.out) (show World.setRow _ w.heap.size (adrV zeroA).toArray = wz from hw6)
      have hb6 := hb7.grown hg6 hb7.size (fun k h => by cases h; exact Nat.le_refl _)
      have R6 := Lib.hid (show wz.heap[w.heap.size]? = some (.cells (adrV zeroA).toArray 26 (0, 0)) from r6)
      clear hw6 r6 hg6
      go_wp2_with fail
      exact ⟨rfl, _, results_row_tmp rfl _ _ w.heap.size 26 (adrV zeroA).toArray (0, 0) _ rfl R6.out Tryz.underlying26 rfl hzz.out _ rfl, by rw [HP.out]; rfl, hb6⟩
     | some b =>
      have hnumB := Lib.hid (show _ from HBk.out)
      rw [hnB] at hnumB
      go_wp2_with (first
       | (have _t := tok1; go_at_call 122; refine (hnumF.out _).mono ?_; rintro e w5 ⟨v5, rfl, rfl, hb5⟩; have hr5 := hr4.later hb5 hr4.lt; have hb5 := hb4.trans (hb5.mono hb4.size); clear tok1)
       | (have _t := tok2; go_at_call 122; refine (hnumB.out _).mono ?_; rintro e w7 ⟨v7, rfl, ⟨u7, rfl, ho7⟩, hb7⟩; obtain ⟨A7, c7, rfl, hs7, -, hl7⟩ := sl_own ho7; have hr7 := hr5.later hb7 hr5.lt; have hq7 := hb7; have hb7 := hb5.trans (hb7.mono hb5.size); have HRw7 := Lib.hid (show w7.heap[w.heap.size]? = some (.cells (adrV zeroA).toArray 26 (0, 0)) from hr7); clear tok2)
       | (have _t := HRw7; refine wpList_store_row rfl 26 (.tmp 2) (.tmp 117) rfl w.heap.size _ rfl rfl 26 (adrV zeroA).toArray HRw7.out (by kernel_rfl) (by kernel_rfl) (by kernel_rfl) ?_; refine Hid.out ?_))
      refine Lib.hid ?_
      generalize hw6 : World.setRow _ _ _ = wz
      obtain ⟨r6, hg6⟩ := row_set (show Row w7 w.heap.size 26 (adrV zeroA) from HRw7.out) (show World.setRow _ w.heap.size (adrV zeroA).toArray = wz from hw6)
      have hb6 := hb7.grown hg6 hb7.size (fun k h => by cases h; exact Nat.le_refl _)
      have R6 := Lib.hid (show wz.heap[w.heap.size]? = some (.cells (adrV zeroA).toArray 26 (0, 0)) from r6)
      clear hw6 r6 hg6
      go_wp2_with fail
      exact ⟨rfl, _, results_row_tmp rfl _ _ w.heap.size 26 (adrV zeroA).toArray (0, 0) _ rfl R6.out Tryz.underlying26 rfl hzz.out _ rfl, by rw [HP.out]; rfl, hb6⟩
    | some f =>
     have hnumF := Lib.hid (show _ from HF.out)
     rw [hnF] at hnumF
     cases hnB : numbersL 16 4 65535 58 (s.drop (k + 2)) with
     | none =>
      have HP := Lib.hid (show parse6 s = none by rw [HP0.out, hnF, hnB])
      have hnumB := Lib.hid (show _ from HBk.out)
      rw [hnB] at hnumB
      go_wp2_with (first
       | (have _t := tok1; go_at_call 122; refine (hnumF.out _).mono ?_; rintro e w5 ⟨v5, rfl, ⟨u5, rfl, ho5⟩, hb5⟩; obtain ⟨A5, c5, rfl, hs5, -, hl5⟩ := sl_own ho5; have hr5 := hr4.later hb5 hr4.lt; have hq5 := hb5; have hb5 := hb4.trans (hb5.mono hb4.size); clear tok1)
       | (have _t := tok2; go_at_call 122; refine (hnumB.out _).mono ?_; rintro e w7 ⟨v7, rfl, rfl, hb7⟩; have hr7 := hr5.later hb7 hr5.lt; have hb7 := hb5.trans (hb7.mono hb5.size); have HRw7 := Lib.hid (show w7.heap[w.heap.size]? = some (.cells (adrV zeroA).toArray 26 (0, 0)) from hr7); clear tok2)
       | (have _t := HRw7; refine wpList_store_row rfl 26 (.tmp 2) (.tmp 117) rfl w.heap.size _ rfl rfl 26 (adrV zeroA).toArray HRw7.out (by kernel_rfl) (by kernel_rfl) (by kernel_rfl) ?_; refine Hid.out ?_))
      refine Lib.hid ?_
      generalize hw6 : World.setRow _ _ _ = wz
      obtain ⟨r6, hg6⟩ := row_set (show Row w7 w.heap.size 26 (adrV zeroA) from HRw7.out) (show World.setRow _ w.heap.size (adrV zeroA).toArray = wz from hw6)
      have hb6 := hb7.grown hg6 hb7.size (fun k h => by cases h; exact Nat.le_refl _)
      have R6 := Lib.hid (show wz.heap[w.heap.size]? = some (.cells (adrV zeroA).toArray 26 (0, 0)) from r6)
      clear hw6 r6 hg6
      go_wp2_with fail
      exact ⟨rfl, _, results_row_tmp rfl _ _ w.heap.size 26 (adrV zeroA).toArray (0, 0) _ rfl R6.out Tryz.underlying26 rfl hzz.out _ rfl, by rw [HP.out]; rfl, hb6⟩
     | some b =>
      have hnumB := Lib.hid (show _ from HBk.out)
      rw [hnB] at hnumB
      have hfl : f.length ≤ s.length := numbersL_len 16 4 65535 58 (s.take k) f s.length (by omega) (by omega) hnF (by rw [List.length_take]; omega)
      have hbl : b.length ≤ s.length := numbersL_len 16 4 65535 58 (s.drop (k + 2)) b s.length (by omega) (by omega) hnB (by rw [List.length_drop]; omega)
      by_cases h7 : f.length + b.length ≤ 7
      ·obtain ⟨pd, hpd⟩ : ∃ pd, pd = padL f b := ⟨_, rfl⟩
       have hpl : pd.length = 8 := by rw [hpd]; exact padL_len f b h7
       have hpm : ∀ n ∈ pd, n ≤ 65535 := by rw [hpd]; exact padL_le f b (fun n hn => (((numbersL_iff 16 4 65535 58 (by omega) (by omega) (.inr rfl) _ f).1 hnF).2 n hn).1) (fun n hn => (((numbersL_iff 16 4 65535 58 (by omega) (by omega) (.inr rfl) _ b).1 hnB).2 n hn).1)
       have HP1 := Lib.hid (show parse6 s = if textA (sixA pd) = s then some (sixA pd) else none by
        rw [HP0.out, hnF, hnB, hpd]
        by_cases he : textA (sixA (padL f b)) = s
        ·rw [if_pos he]; exact if_pos ⟨h7, he⟩
        ·rw [if_neg he]; exact if_neg (fun h => he h.2))
       have HPD := Lib.hid (show ∀ j, f.length + j + b.length = 8 → intsV (f ++ List.replicate j 0) ++ intsV b = intsV pd by
        intro j hj
        rw [hpd, ← intsV_append, List.append_assoc]
        unfold padL
        rw [show 8 - (f.length + b.length) = j by omega])
       have hsx := Lib.hid (fun A c w' (hs : Sl w' A c (intsV pd)) => rsix_any pd hpl hpm A c w' hs)
       have htx := Lib.hid (fun w' => rtextA_any (sixA pd) (sixA_ok pd hpl) w')
       have h7' : (f.length : Int) + (b.length : Int) ≤ 7 := by omega
       have hok6 := sixA_ok pd hpl
       obtain ⟨V, hV⟩ : ∃ V, V = adrV (sixA pd) := ⟨_, rfl⟩
       have hVl : V.length = 17 := by rw [hV]; exact length_adrV hok6
       have hVz := Lib.hid (show (Tryz.prog.info? 26).map (·.size) = some V.toArray.size by rw [size_adr, List.size_toArray, hVl])
       have hVs := Lib.hid (show (adrV zeroA).toArray.size = V.toArray.size by rw [List.size_toArray, List.size_toArray, length_adrV zeroA_ok, hVl])
       have hV1 := Lib.hid (show V.toArray.all (·.oneCell') = true from all_one (by rw [hV]; exact adrV_one _))
       have h17 := Lib.hid (show 17 = V.toArray.size by rw [List.size_toArray, hVl])
       have HV := Lib.hid hV
       rw [← hV] at hsx htx
       clear hV hVl hok6 hpd hpl hpm hnF hnB HP0 HF HBk
       obtain ⟨i0, hi, hz0, hz1, hz2⟩ := info_parts infoInt12
       go_wp2_with (first
        | (have _t := tok1; go_at_call 122; refine (hnumF.out _).mono ?_; rintro e w5 ⟨v5, rfl, ⟨u5, rfl, ho5⟩, hb5⟩; obtain ⟨A5, c5, rfl, hs5, -, hl5⟩ := sl_own ho5; have hr5 := hr4.later hb5 hr4.lt; have hq5 := hb5; have hb5 := hb4.trans (hb5.mono hb4.size); clear tok1)
        | (have _t := tok2; go_at_call 122; refine (hnumB.out _).mono ?_; rintro e w7 ⟨v7, rfl, ⟨u7, rfl, ho7⟩, hb7⟩; obtain ⟨A7, c7, rfl, hs7, -, hl7⟩ := sl_own ho7; have hr7 := hr5.later hb7 hr5.lt; have hq7 := hb7; have hb7 := hb5.trans (hb7.mono hb5.size); have HRw7 := Lib.hid (show w7.heap[w.heap.size]? = some (.cells (adrV zeroA).toArray 26 (0, 0)) from hr7); clear tok2))
       go_loopw [8] (fun v wq => ∃ (j : Nat) (A : Option Addr) (c : Nat), f.length + j + b.length ≤ 8 ∧ v = .slice A (f.length + j) c ∧ wq.ownsRow wo.heap.size 3 1 (.slice A (f.length + j) c) (f.length + j) (intsV (f ++ List.replicate j 0)) ∧ (∀ a, A = some a → a.block < w5.heap.size ∨ w7.heap.size ≤ a.block) ∧ Sl wq A7 c7 (intsV b) ∧ w7.heap.size ≤ wq.heap.size ∧ Row wq w.heap.size 26 (adrV zeroA) ∧ Below w.heap.size w wq) (fun v _ => 8 - lenV12 v)
       case atStart =>
        refine ⟨0, A5, c5, by omega, rfl, ?_, fun a ha => .inl (hl5 a ha).2, hs7, Nat.le_refl _, hr7, hb7⟩
        rw [List.replicate_zero, List.append_nil]
        exact own_later ho5 hq7 (Nat.le_refl _)
       case round =>
        have hwo : wo.heap.size ≤ w7.heap.size := Nat.le_trans hq5.size hq7.size
        have hww : w.heap.size < wo.heap.size := hr4.lt
        clear hr7 hb7 hs7 HRw7
        obtain ⟨j, A, c, hj8, rfl, hown, hblk, hs7, hwq, hrq, hbq⟩ := hrel
        by_cases hlt : f.length + j + b.length < 8
        ·have hlt' : (f.length : Int) + (j : Int) + (b.length : Int) < 8 := by omega
         have n1 : f.length + j + 1 ≤ maxLen := by unfold maxLen; omega
         have n2 : (f.length + j + 1) * 8 ≤ 140737488355328 := by omega
         go_wp2_with (at_builtin; have howna := hown.alloc (.cells #[.int .i64 0] 3); have hs7a := hs7.later (Nat.le_refl _) ((Below.refl _ wr).alloc (Nat.le_refl _) (.cells #[.int .i64 0] 3)); have hrqa := hrq.later ((Below.refl _ wr).alloc (Nat.le_refl _) (.cells #[.int .i64 0] 3)) hrq.lt; have hbqa := hbq.alloc hbq.size (.cells #[.int .i64 0] 3); refine wpList_append_own_at _ rfl (.tmp 124) (.tmp 125) 134 rfl wo.heap.size 3 i0 _ 1 8 Tryz.underlying134 hi hz0 hz1 hz2 rfl (by decide) _ (f.length + j) _ rfl howna ⟨wr.heap.size, 0, none⟩ 1 1 [.int .i64 0] rfl rfl (cells_new wr _ _) (by simp [Value.oneCell']) n1 n2 (by rw [World.size_alloc]; omega) ?_; intro v8 w8 hown8 hg8 _ hwh)
         obtain ⟨A8, c8, rfl, -, -, -⟩ := sl_own hown8
         have hwh : (Value.slice A8 (f.length + j + 1) c8).ownBlock = (Value.slice A (f.length + j) c).ownBlock ∨ (Value.slice A8 (f.length + j + 1) c8).ownBlock = some (wr.alloc (.cells #[.int .i64 0] 3)).heap.size := hwh
         have hne7 : ∀ a, A7 = some a → (Value.slice A (f.length + j) c).ownBlock ≠ some a.block := by
          intro a ha e
          have h1 := hl7 a ha
          cases A with
          | none => cases e
          | some a2 =>
           have e : a2.block = a.block := by simpa [Value.ownBlock] using e
           have := hblk a2 rfl
           omega
         have hs8 := sl_keep hs7a hg8 hne7
         have hr8 := row_keep hrqa hg8 (fun e => by have := own_ge hown e; omega)
         have hb8 := hbqa.grown hg8 hbqa.size (fun g e => by have := own_ge hown e; omega)
         have hsz8 := hg8.size
         rw [World.size_alloc] at hsz8 hwh
         have hblk8 : ∀ a, A8 = some a → a.block < w5.heap.size ∨ w7.heap.size ≤ a.block := by
          intro a ha
          subst ha
          rcases hwh with h | h
          ·cases A with
           | none => cases h
           | some a2 =>
            have e : a.block = a2.block := by simpa [Value.ownBlock] using h
            have := hblk a2 rfl
            rw [e]; exact this
          ·have e : a.block = wr.heap.size + 1 := by simpa [Value.ownBlock] using h
           omega
         have eX : intsV (f ++ List.replicate j 0) ++ [.int .i64 0] = intsV (f ++ List.replicate (j + 1) 0) := by
          rw [List.replicate_succ', ← List.append_assoc, intsV_append (f ++ List.replicate j 0)]; rfl
         rw [eX] at hown8
         clear hwh hg8 hne7 hblk hown howna eX
         go_wp2
         go_roundw
         case rel => exact ⟨j + 1, A8, c8, by omega, rfl, hown8, hblk8, hs8, by omega, hr8, hb8⟩
         case measure => simp [lenV12]; omega
        ·have he8 : f.length + j + b.length = 8 := by omega
         have hge' : (8 : Int) ≤ (f.length : Int) + (j : Int) + (b.length : Int) := by omega
         have tok3 : True := trivial
         by_cases he : textA (sixA pd) = s
         ·have HP := Lib.hid (show parse6 s = some (sixA pd) by rw [HP1.out, if_pos he])
          have htl : ((bstr (textA (sixA pd))).toList == (bstr s).toList) = true := by rw [bstr_beq]; exact decide_eq_true he
          clear he HP1
          generalize textA (sixA pd) = X at *
          go_wp2_with (first
           | (have _t := tok3; at_builtin; refine wpList_append_sl rfl (.tmp 127) (.tmp 128) 134 rfl wo.heap.size 3 i0 _ 8 Tryz.underlying134 hi hz0 hz1 hz2 rfl _ _ _ rfl hown A7 b.length c7 (intsV b) rfl (by rw [length_intsV]) hs7 (intsV_one _) (by unfold maxLen; omega) (by omega) (Nat.le_trans hwo hwq) ?_; intro v8 w8 hown8 hg8; clear tok3; rw [HPD.out j he8, he8] at hown8; obtain ⟨A8, c8, rfl, hs8, -, -⟩ := sl_own hown8; have hr8 := row_keep hrq hg8 (fun e => by have := own_ge hown e; omega); have hb8 := hbq.grown hg8 hbq.size (fun g e => by have := own_ge hown e; omega); clear hown8 hg8 hown hs7)
           | (go_at_call 124; refine (hsx.out A8 c8 _ hs8).mono ?_; rintro e w8' ⟨rfl, hb8'⟩; have hr8 := hr8.later hb8' hr8.lt; have hb8 := hb8.trans (hb8'.mono hb8.size); obtain ⟨w8, rfl⟩ : ∃ x : World, x = w8' := ⟨_, rfl⟩; clear hs8 hb8')
           | (have _t := hr8; refine wpList_store_row rfl 26 (.tmp 11) (.tmp 130) rfl w8.heap.size V.toArray rfl rfl 26 _ (heap_alloc_new w8 _) hVz.out h17.out hV1.out ?_; refine Hid.out ?_))
          refine Lib.hid ?_
          generalize hw9 : World.setRow _ _ _ = w9
          obtain ⟨r9, hb9'⟩ := row_new_set hw9
          have r9b := hr8.later hb9' hr8.lt
          have hb9 := hb8.trans (hb9'.mono hb8.size)
          have HR9 := Lib.hid (show w9.heap[w8.heap.size]? = some (.cells V.toArray 26 (0, 0)) from r9)
          clear hw9 hb9'
          have tok4 : True := trivial
          go_wp2_with (first
           | (have _t := tok4; with_reducible refine wpList_load_row rfl 26 (.tmp 11) rfl w8.heap.size rfl 26 V.toArray (0, 0) _ HR9.out Tryz.underlying26 rfl hVz.out ?_; clear tok4)
           | (go_at_call 123; refine (htx.out _).mono ?_; rintro e w10 ⟨rfl, hb10⟩; have r10 := r9.later hb10 r9.lt; have r10b := r9b.later hb10 r9b.lt; have hb10 := hb9.trans (hb10.mono hb9.size); have HR10 := Lib.hid (show w10.heap[w8.heap.size]? = some (.cells V.toArray 26 (0, 0)) from r10); have H10 := Lib.hid (show w10.heap[w.heap.size]? = some (.cells (adrV zeroA).toArray 26 (0, 0)) from r10b); clear r9 r9b r10 r10b)
           | (with_reducible refine wpList_load_row rfl 26 (.tmp 11) rfl w8.heap.size rfl 26 V.toArray (0, 0) _ HR10.out Tryz.underlying26 rfl hVz.out ?_)
           | (with_reducible refine wpList_store_row rfl 26 (.tmp 2) (.tmp 136) rfl w.heap.size V.toArray rfl rfl 26 (adrV zeroA).toArray H10.out hVz.out hVs.out hV1.out ?_; refine Hid.out ?_))
          refine Lib.hid ?_
          generalize hw11 : World.setRow _ _ _ = w11
          obtain ⟨r11, hg11⟩ := row_set (show Row w10 w.heap.size 26 (adrV zeroA) from H10.out) (show World.setRow _ w.heap.size V.toArray = w11 from hw11)
          have hb11 := hb10.grown hg11 hb10.size (fun k h => by cases h; exact Nat.le_refl _)
          have R11 := Lib.hid (show w11.heap[w.heap.size]? = some (.cells V.toArray 26 (0, 0)) from r11)
          clear hw11 r11 hg11 H10 HR10
          go_wp2_with fail
          exact ⟨rfl, _, results_row_tmp rfl _ _ w.heap.size 26 V.toArray (0, 0) _ rfl R11.out Tryz.underlying26 rfl hVz.out _ rfl, by rw [HP.out]; rw [HV.out]; rfl, hb11⟩
         ·have HP := Lib.hid (show parse6 s = none by rw [HP1.out, if_neg he])
          have htl : ((bstr (textA (sixA pd))).toList == (bstr s).toList) = false := by rw [bstr_beq]; exact decide_eq_false he
          clear he HP1
          generalize textA (sixA pd) = X at *
          go_wp2_with (first
           | (have _t := tok3; at_builtin; refine wpList_append_sl rfl (.tmp 127) (.tmp 128) 134 rfl wo.heap.size 3 i0 _ 8 Tryz.underlying134 hi hz0 hz1 hz2 rfl _ _ _ rfl hown A7 b.length c7 (intsV b) rfl (by rw [length_intsV]) hs7 (intsV_one _) (by unfold maxLen; omega) (by omega) (Nat.le_trans hwo hwq) ?_; intro v8 w8 hown8 hg8; clear tok3; rw [HPD.out j he8, he8] at hown8; obtain ⟨A8, c8, rfl, hs8, -, -⟩ := sl_own hown8; have hr8 := row_keep hrq hg8 (fun e => by have := own_ge hown e; omega); have hb8 := hbq.grown hg8 hbq.size (fun g e => by have := own_ge hown e; omega); clear hown8 hg8 hown hs7)
           | (go_at_call 124; refine (hsx.out A8 c8 _ hs8).mono ?_; rintro e w8' ⟨rfl, hb8'⟩; have hr8 := hr8.later hb8' hr8.lt; have hb8 := hb8.trans (hb8'.mono hb8.size); obtain ⟨w8, rfl⟩ : ∃ x : World, x = w8' := ⟨_, rfl⟩; clear hs8 hb8')
           | (have _t := hr8; refine wpList_store_row rfl 26 (.tmp 11) (.tmp 130) rfl w8.heap.size V.toArray rfl rfl 26 _ (heap_alloc_new w8 _) hVz.out h17.out hV1.out ?_; refine Hid.out ?_))
          refine Lib.hid ?_
          generalize hw9 : World.setRow _ _ _ = w9
          obtain ⟨r9, hb9'⟩ := row_new_set hw9
          have r9b := hr8.later hb9' hr8.lt
          have hb9 := hb8.trans (hb9'.mono hb8.size)
          have HR9 := Lib.hid (show w9.heap[w8.heap.size]? = some (.cells V.toArray 26 (0, 0)) from r9)
          clear hw9 hb9'
          have tok4 : True := trivial
          go_wp2_with (first
           | (have _t := tok4; with_reducible refine wpList_load_row rfl 26 (.tmp 11) rfl w8.heap.size rfl 26 V.toArray (0, 0) _ HR9.out Tryz.underlying26 rfl hVz.out ?_; clear tok4)
           | (go_at_call 123; refine (htx.out _).mono ?_; rintro e w10 ⟨rfl, hb10⟩; have r10 := r9.later hb10 r9.lt; have r10b := r9b.later hb10 r9b.lt; have hb10 := hb9.trans (hb10.mono hb9.size); have HR10 := Lib.hid (show w10.heap[w8.heap.size]? = some (.cells V.toArray 26 (0, 0)) from r10); have H10 := Lib.hid (show w10.heap[w.heap.size]? = some (.cells (adrV zeroA).toArray 26 (0, 0)) from r10b); clear r9 r9b r10 r10b)
           | (have _t := H10; refine wpList_store_row rfl 26 (.tmp 2) (.tmp 135) rfl w.heap.size _ rfl rfl 26 (adrV zeroA).toArray H10.out (by kernel_rfl) (by kernel_rfl) (by kernel_rfl) ?_; refine Hid.out ?_))
          refine Lib.hid ?_
          generalize hw11 : World.setRow _ _ _ = w11
          obtain ⟨r11, hg11⟩ := row_set (show Row w10 w.heap.size 26 (adrV zeroA) from H10.out) (show World.setRow _ w.heap.size (adrV zeroA).toArray = w11 from hw11)
          have hb11 := hb10.grown hg11 hb10.size (fun k h => by cases h; exact Nat.le_refl _)
          have R11 := Lib.hid (show w11.heap[w.heap.size]? = some (.cells (adrV zeroA).toArray 26 (0, 0)) from r11)
          clear hw11 r11 hg11 H10 HR10
          go_wp2_with fail
          exact ⟨rfl, _, results_row_tmp rfl _ _ w.heap.size 26 (adrV zeroA).toArray (0, 0) _ rfl R11.out Tryz.underlying26 rfl hzz.out _ rfl, by rw [HP.out]; rfl, hb11⟩
      ·have HP := Lib.hid (show parse6 s = none by rw [HP0.out, hnF, hnB]; exact if_neg (fun h => h7 h.1))
       have h7' : (7 : Int) < (f.length : Int) + (b.length : Int) := by omega
       go_wp2_with (first
        | (have _t := tok1; go_at_call 122; refine (hnumF.out _).mono ?_; rintro e w5 ⟨v5, rfl, ⟨u5, rfl, ho5⟩, hb5⟩; obtain ⟨A5, c5, rfl, hs5, -, hl5⟩ := sl_own ho5; have hr5 := hr4.later hb5 hr4.lt; have hq5 := hb5; have hb5 := hb4.trans (hb5.mono hb4.size); clear tok1)
        | (have _t := tok2; go_at_call 122; refine (hnumB.out _).mono ?_; rintro e w7 ⟨v7, rfl, ⟨u7, rfl, ho7⟩, hb7⟩; obtain ⟨A7, c7, rfl, hs7, -, hl7⟩ := sl_own ho7; have hr7 := hr5.later hb7 hr5.lt; have hq7 := hb7; have hb7 := hb5.trans (hb7.mono hb5.size); have HRw7 := Lib.hid (show w7.heap[w.heap.size]? = some (.cells (adrV zeroA).toArray 26 (0, 0)) from hr7); clear tok2)
        | (have _t := HRw7; refine wpList_store_row rfl 26 (.tmp 2) (.tmp 117) rfl w.heap.size _ rfl rfl 26 (adrV zeroA).toArray HRw7.out (by kernel_rfl) (by kernel_rfl) (by kernel_rfl) ?_; refine Hid.out ?_))
       refine Lib.hid ?_
       generalize hw6 : World.setRow _ _ _ = wz
       obtain ⟨r6, hg6⟩ := row_set (show Row w7 w.heap.size 26 (adrV zeroA) from HRw7.out) (show World.setRow _ w.heap.size (adrV zeroA).toArray = wz from hw6)
       have hb6 := hb7.grown hg6 hb7.size (fun k h => by cases h; exact Nat.le_refl _)
       have R6 := Lib.hid (show wz.heap[w.heap.size]? = some (.cells (adrV zeroA).toArray 26 (0, 0)) from r6)
       clear hw6 r6 hg6
       go_wp2_with fail
       exact ⟨rfl, _, results_row_tmp rfl _ _ w.heap.size 26 (adrV zeroA).toArray (0, 0) _ rfl R6.out Tryz.underlying26 rfl hzz.out _ rfl, by rw [HP.out]; rfl, hb6⟩
theorem rparse_any (s : List UInt8) (hs : s.length ≤ 1000) (w : World) :
  Calls Tryz.prog 93 #[.string (bstr s)] w fun e w' => e = .returned (parsV (parseL s)) ∧ Below w.heap.size w w' := by
 unfold parseL
 cases hn : numbersL 10 3 255 46 s with
 | none =>
  cases hf : findC s with
  | none => exact rparse_plainA s hs hn hf w
  | some k => exact rparse_cutA s hs hn k hf w
 | some l =>
  by_cases h4 : l.length = 4
  ·simp only [if_pos h4]
   exact rparse_four s hs l hn h4 w
  ·simp only [if_neg h4]
   cases hf : findC s with
   | none => exact rparse_plainB s hs l hn h4 hf w
   | some k => exact rparse_cutB s hs l hn h4 k hf w
end Go.Proofs.YtjieebmcbpdeiaaGreatDoor
