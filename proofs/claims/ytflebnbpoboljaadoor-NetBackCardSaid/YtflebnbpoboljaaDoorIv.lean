/- LAYER 12: the document's value: the number of some digits. -/
import Derived.Test.YtflebnbpoboljaaDoorIu
namespace Go.Proofs.YtflebnbpoboljaaDoor
set_option maxRecDepth 100000
open Go Go.RowKit

def digI (b : Nat) (c : UInt8) : Int := (List.range b).foldl (fun d j => if hexD j = c then (j : Int) else d) (-1)
theorem digI_succ (b : Nat) (c : UInt8) : digI (b + 1) c = if hexD b = c then (b : Int) else digI b c := by
  unfold digI
  rw [List.range_succ, List.foldl_append]; rfl
theorem digI_bd (b : Nat) (c : UInt8) : -1 ≤ digI b c ∧ digI b c < b := by
  induction b with
  | zero => exact ⟨by show (-1 : Int) ≤ -1; omega, by show (-1 : Int) < _; omega⟩
  | succ b ih => rw [digI_succ]; split <;> omega
theorem digI_hex (b : Nat) (c : UInt8) (h : 0 ≤ digI b c) : hexD (digI b c).toNat = c := by
  induction b with
  | zero => exact absurd h (by show ¬ (0 : Int) ≤ -1; omega)
  | succ b ih =>
    rw [digI_succ] at h ⊢
    split
    · rename_i e; simpa using e
    · rename_i e; rw [if_neg e] at h; exact ih h
def foldV (b : Nat) : Nat → List UInt8 → Option Nat
  | n, [] => some n
  | n, c :: s => if digI b c < 0 then none else foldV b (n * b + (digI b c).toNat) s
def optI : Option Nat → Int
  | none => -1
  | some n => n
def valueL (b most : Nat) (s : List UInt8) : Option Nat :=
  if s.length = 0 ∨ most < s.length then none
  else match foldV b 0 s with
    | none => none
    | some n => if numL b n = s then some n else none
theorem foldV_at (b n k : Nat) (s : List UInt8) (h : k < s.length) : foldV b n (s.drop k) = if digI b (s.getD k 0) < 0 then none else foldV b (n * b + (digI b (s.getD k 0)).toNat) (s.drop (k + 1)) := by
  rw [List.drop_eq_getElem_cons h, foldV, List.getD_eq_getElem?_getD, List.getElem?_eq_getElem h]; rfl
set_option maxHeartbeats 2000000 in
theorem rvalue10_any (s : List UInt8) (most : Nat) (hm : most ≤ 4) (w : World) :
    Calls Tryd.prog 57 #[.string (bstr s), .int .i64 10, .int .i64 most] w fun e w' => e = .returned (.int .i64 (optI (valueL 10 most s))) ∧ Below w.heap.size w w' := by
  have hz := size_bstr s
  by_cases hbad : s.length = 0 ∨ most < s.length
  · have HV := Lib.hid (show valueL 10 most s = none by unfold valueL; rw [if_pos hbad])
    by_cases h0 : s.length = 0
    · have h0' : ((s.length : Nat) : Int) = 0 := by omega
      go_enter Tryd.func57, Tryd.ntmps57
      go_wp2
      go_ret
      exact ⟨by rw [HV.out]; rfl, Below.refl _ _⟩
    · have h1' : 0 < s.length := by omega
      have h2' : (most : Int) < (s.length : Int) := by omega
      clear hbad
      go_enter Tryd.func57, Tryd.ntmps57
      go_wp2
      go_ret
      exact ⟨by rw [HV.out]; rfl, Below.refl _ _⟩
  · have HV := Lib.hid (show valueL 10 most s = (match foldV 10 0 s with | none => none | some n => if numL 10 n = s then some n else none) by unfold valueL; rw [if_neg hbad])
    have h0 : 0 < s.length := by omega
    have h1 : s.length ≤ most := by omega
    have h1' : (s.length : Int) ≤ (most : Int) := by omega
    have h0' : (((s.length : Nat) : Int) == 0) = false := by rw [beq_eq_false_iff_ne]; omega
    clear hbad
    go_enter Tryd.func57, Tryd.ntmps57
    go_wp2
    go_loopw [7, 8] (fun n i wr => ∃ k m : Nat, k ≤ s.length ∧ i = .int .i64 k ∧ n = .int .i64 m ∧ m < 10 ^ k ∧ foldV 10 m (s.drop k) = foldV 10 0 s ∧ Below w.heap.size w wr) (fun _ i _ => s.length - (intOf i).toNat)
    case atStart => exact ⟨0, 0, by omega, rfl, rfl, by decide, rfl, Below.refl _ _⟩
    case round =>
      obtain ⟨k, m, hk, rfl, rfl, hmk, hf, hbr⟩ := hrel
      by_cases hlt : k < s.length
      · have hlt' : (k : Int) < (s.length : Int) := by omega
        have hix := index_bstr s k hlt
        have HF := Lib.hid hf
        have HG := Lib.hid (foldV_at 10 m k s hlt)
        have hP : 10 ^ k ≤ 10 ^ 4 := Nat.pow_le_pow_right (by omega) (by omega)
        have HP := Lib.hid (show 10 ^ (k + 1) = 10 ^ k * 10 from Nat.pow_succ ..)
        have hbd := digI_bd 10 (s.getD k 0)
        generalize s.getD k 0 = c at *
        clear hf
        obtain ⟨wo, rfl⟩ : ∃ wo : World, wo = wr := ⟨_, rfl⟩
        go_wp2
        go_loopw [9, 10] (fun d j wr => ∃ q : Nat, q ≤ 10 ∧ j = .int .i64 q ∧ d = .int .i64 (digI q c) ∧ Below w.heap.size w wr) (fun _ j _ => 10 - (intOf j).toNat)
        case atStart => exact ⟨0, by omega, rfl, rfl, hbr⟩
        case round =>
          clear hbr
          obtain ⟨q, hq, rfl, rfl, hbq⟩ := hrel
          by_cases hql : q < 10
          · have hql' : (q : Int) < 10 := by omega
            have hd := digit_at64 q (by omega)
            have HD := Lib.hid (digI_succ q c)
            by_cases he : hexD q = c
            · have HD2 := Lib.hid (HD.out.trans (if_pos he))
              rw [he] at hd
              clear he HD
              go_wp2
              refine wp_region_noPanic ?_
              refine wp_region_held_drew (S := fun w' => Below w.heap.size w w') (by kernel_rfl) (hbq.drew) (fun hHeld => ?_)
              refine rtake 0 _ (some 31) _ rfl rfl (by kernel_rfl) (by kernel_rfl) (by kernel_rfl) (fun _ _ _ h => h) (by rfl) hHeld (by intro w hS; go_simp; try with_reducible rfl) ?_
              try (first | (rw [put_some]; dsimp only [List.set]) | rw [put_none])
              refine rtake 1 _ (some 32) _ rfl rfl (by kernel_rfl) (by kernel_rfl) (by kernel_rfl) (fun _ _ _ h => h) (by rfl) hHeld (by intro w hS; go_simp; try with_reducible rfl) ?_
              try (first | (rw [put_some]; dsimp only [List.set]) | rw [put_none])
              refine rtake 2 _ (some 33) _ rfl rfl (by kernel_rfl) (by kernel_rfl) (by kernel_rfl) (fun _ _ _ h => h) (by rfl) hHeld (by intro w hS; go_simp; try with_reducible rfl) ?_
              try (first | (rw [put_some]; dsimp only [List.set]) | rw [put_none])
              refine rtake 3 _ (some 34) _ rfl rfl (by kernel_rfl) (by kernel_rfl) (by kernel_rfl) (fun _ _ _ h => h) (by rfl) hHeld (by intro w hS; go_simp; try with_reducible rfl) ?_
              try (first | (rw [put_some]; dsimp only [List.set]) | rw [put_none])
              refine rtake 4 _ (some 35) _ rfl rfl (by kernel_rfl) (by kernel_rfl) (by kernel_rfl) (fun _ _ _ h => h) (by rfl) hHeld (by intro w hS; go_simp; try with_reducible rfl) ?_
              try (first | (rw [put_some]; dsimp only [List.set]) | rw [put_none])
              refine rtake 5 _ (some 36) _ rfl rfl (by kernel_rfl) (by kernel_rfl) (by kernel_rfl) (fun _ _ _ h => h) (by rfl) hHeld (by intro w hS; go_simp; try with_reducible rfl) ?_
              try (first | (rw [put_some]; dsimp only [List.set]) | rw [put_none])
              refine wpAnyH_done (by kernel_rfl) ?_ _
              refine NoPanic.normal ?_
              go_wp2
              go_roundw
              case rel => exact ⟨q + 1, by omega, by go_num, by rw [HD2.out], hbq.drew⟩
              case measure => simp [intOf]; omega
            · have HD2 := Lib.hid (HD.out.trans (if_neg he))
              have hb : (((hexD q).toNat : Int) == (c.toNat : Int)) = false := by
                rw [beq_eq_false_iff_ne]
                intro h
                exact he (UInt8.toNat_inj.1 (by omega))
              generalize hexD q = x at *
              clear he HD
              go_wp2
              refine wp_region_noPanic ?_
              refine wp_region_held_drew (S := fun w' => Below w.heap.size w w') (by kernel_rfl) (hbq.drew) (fun hHeld => ?_)
              refine rtake 0 _ (some 31) _ rfl rfl (by kernel_rfl) (by kernel_rfl) (by kernel_rfl) (fun _ _ _ h => h) (by rfl) hHeld (by intro w hS; go_simp; try with_reducible rfl) ?_
              try (first | (rw [put_some]; dsimp only [List.set]) | rw [put_none])
              refine rtake 1 _ (some 32) _ rfl rfl (by kernel_rfl) (by kernel_rfl) (by kernel_rfl) (fun _ _ _ h => h) (by rfl) hHeld (by intro w hS; go_simp; try with_reducible rfl) ?_
              try (first | (rw [put_some]; dsimp only [List.set]) | rw [put_none])
              refine rtake 2 _ (some 33) _ rfl rfl (by kernel_rfl) (by kernel_rfl) (by kernel_rfl) (fun _ _ _ h => h) (by rfl) hHeld (by intro w hS; go_simp; try with_reducible rfl) ?_
              try (first | (rw [put_some]; dsimp only [List.set]) | rw [put_none])
              refine rtake 3 _ (some 34) _ rfl rfl (by kernel_rfl) (by kernel_rfl) (by kernel_rfl) (fun _ _ _ h => h) (by rfl) hHeld (by intro w hS; go_simp; try with_reducible rfl) ?_
              try (first | (rw [put_some]; dsimp only [List.set]) | rw [put_none])
              refine rtake 4 _ (some 35) _ rfl rfl (by kernel_rfl) (by kernel_rfl) (by kernel_rfl) (fun _ _ _ h => h) (by rfl) hHeld (by intro w hS; go_simp; try with_reducible rfl) ?_
              try (first | (rw [put_some]; dsimp only [List.set]) | rw [put_none])
              refine rtake 5 _ (some 36) _ rfl rfl (by kernel_rfl) (by kernel_rfl) (by kernel_rfl) (fun _ _ _ h => h) (by rfl) hHeld (by intro w hS; go_simp; try with_reducible rfl) ?_
              try (first | (rw [put_some]; dsimp only [List.set]) | rw [put_none])
              refine wpAnyH_done (by kernel_rfl) ?_ _
              refine NoPanic.normal ?_
              go_wp2
              go_roundw
              case rel => exact ⟨q + 1, by omega, by go_num, by rw [HD2.out], hbq.drew⟩
              case measure => simp [intOf]; omega
          · obtain rfl : q = 10 := by omega
            by_cases hneg : digI 10 c < 0
            · have HV2 := Lib.hid (show valueL 10 most s = none by rw [HV.out, ← HF.out, HG.out, if_pos hneg])
              clear HV HF HG
              go_wp2
              go_ret
              exact ⟨by rw [HV2.out]; rfl, hbq⟩
            · have HG2 := Lib.hid (HF.out.symm.trans (HG.out.trans (if_neg hneg)))
              have hn0 : 0 ≤ digI 10 c := by omega
              have hdc : ((digI 10 c).toNat : Int) = digI 10 c := by omega
              generalize digI 10 c = d at *
              have hw1 : IntKind.i64.wrap ((m : Int) * 10) = (m : Int) * 10 := by rw [IntKind.wrap_i64]; omega
              have hw2 : IntKind.i64.wrap ((m : Int) * 10 + d) = ((m * 10 + d.toNat : Nat) : Int) := by rw [IntKind.wrap_i64]; omega
              have hm2 : m * 10 + d.toNat < 10 ^ (k + 1) := by rw [HP.out]; omega
              generalize m * 10 + d.toNat = m2 at *
              clear HF HG hneg hdc
              go_wp2
              go_roundw
              case rel => exact ⟨k + 1, m2, by omega, by go_num, rfl, hm2, HG2.out.symm, hbq⟩
              case measure => simp [intOf]; omega
      · obtain rfl : k = s.length := by omega
        have HV2 := Lib.hid (show valueL 10 most s = if numL 10 m = s then some m else none by
          rw [HV.out, ← hf, List.drop_length]; rfl)
        have hmm : m < 10 ^ 4 := Nat.lt_of_lt_of_le hmk (Nat.pow_le_pow_right (by omega) (by omega))
        have hn := Lib.hid (fun w' => rnum10_any m m w' (Nat.le_refl _) (by omega))
        clear HV hf
        by_cases he : numL 10 m = s
        · have HV3 := Lib.hid (HV2.out.trans (if_pos he))
          rw [he] at hn
          clear HV2 he
          go_wp2_with (go_at_call 43; refine (hn.out _).mono ?_; rintro e w1 ⟨rfl, hb1⟩)
          go_ret
          exact ⟨by rw [HV3.out]; rfl, hbr.trans (hb1.mono hbr.size)⟩
        · have HV3 := Lib.hid (HV2.out.trans (if_neg he))
          have hne : ((bstr (numL 10 m)).toList == (bstr s).toList) = false := by rw [bstr_beq]; exact decide_eq_false he
          generalize numL 10 m = X at *
          clear HV2 he
          go_wp2_with (go_at_call 43; refine (hn.out _).mono ?_; rintro e w1 ⟨rfl, hb1⟩)
          go_ret
          exact ⟨by rw [HV3.out]; rfl, hbr.trans (hb1.mono hbr.size)⟩
set_option maxHeartbeats 2000000 in
theorem rvalue16_any (s : List UInt8) (most : Nat) (hm : most ≤ 4) (w : World) :
    Calls Tryd.prog 57 #[.string (bstr s), .int .i64 16, .int .i64 most] w fun e w' => e = .returned (.int .i64 (optI (valueL 16 most s))) ∧ Below w.heap.size w w' := by
  have hz := size_bstr s
  by_cases hbad : s.length = 0 ∨ most < s.length
  · have HV := Lib.hid (show valueL 16 most s = none by unfold valueL; rw [if_pos hbad])
    by_cases h0 : s.length = 0
    · have h0' : ((s.length : Nat) : Int) = 0 := by omega
      go_enter Tryd.func57, Tryd.ntmps57
      go_wp2
      go_ret
      exact ⟨by rw [HV.out]; rfl, Below.refl _ _⟩
    · have h1' : 0 < s.length := by omega
      have h2' : (most : Int) < (s.length : Int) := by omega
      clear hbad
      go_enter Tryd.func57, Tryd.ntmps57
      go_wp2
      go_ret
      exact ⟨by rw [HV.out]; rfl, Below.refl _ _⟩
  · have HV := Lib.hid (show valueL 16 most s = (match foldV 16 0 s with | none => none | some n => if numL 16 n = s then some n else none) by unfold valueL; rw [if_neg hbad])
    have h0 : 0 < s.length := by omega
    have h1 : s.length ≤ most := by omega
    have h1' : (s.length : Int) ≤ (most : Int) := by omega
    have h0' : (((s.length : Nat) : Int) == 0) = false := by rw [beq_eq_false_iff_ne]; omega
    clear hbad
    go_enter Tryd.func57, Tryd.ntmps57
    go_wp2
    go_loopw [7, 8] (fun n i wr => ∃ k m : Nat, k ≤ s.length ∧ i = .int .i64 k ∧ n = .int .i64 m ∧ m < 16 ^ k ∧ foldV 16 m (s.drop k) = foldV 16 0 s ∧ Below w.heap.size w wr) (fun _ i _ => s.length - (intOf i).toNat)
    case atStart => exact ⟨0, 0, by omega, rfl, rfl, by decide, rfl, Below.refl _ _⟩
    case round =>
      obtain ⟨k, m, hk, rfl, rfl, hmk, hf, hbr⟩ := hrel
      by_cases hlt : k < s.length
      · have hlt' : (k : Int) < (s.length : Int) := by omega
        have hix := index_bstr s k hlt
        have HF := Lib.hid hf
        have HG := Lib.hid (foldV_at 16 m k s hlt)
        have hP : 16 ^ k ≤ 16 ^ 4 := Nat.pow_le_pow_right (by omega) (by omega)
        have HP := Lib.hid (show 16 ^ (k + 1) = 16 ^ k * 16 from Nat.pow_succ ..)
        have hbd := digI_bd 16 (s.getD k 0)
        generalize s.getD k 0 = c at *
        clear hf
        obtain ⟨wo, rfl⟩ : ∃ wo : World, wo = wr := ⟨_, rfl⟩
        go_wp2
        go_loopw [9, 10] (fun d j wr => ∃ q : Nat, q ≤ 16 ∧ j = .int .i64 q ∧ d = .int .i64 (digI q c) ∧ Below w.heap.size w wr) (fun _ j _ => 16 - (intOf j).toNat)
        case atStart => exact ⟨0, by omega, rfl, rfl, hbr⟩
        case round =>
          clear hbr
          obtain ⟨q, hq, rfl, rfl, hbq⟩ := hrel
          by_cases hql : q < 16
          · have hql' : (q : Int) < 16 := by omega
            have hd := digit_at64 q (by omega)
            have HD := Lib.hid (digI_succ q c)
            by_cases he : hexD q = c
            · have HD2 := Lib.hid (HD.out.trans (if_pos he))
              rw [he] at hd
              clear he HD
              go_wp2
              refine wp_region_noPanic ?_
              refine wp_region_held_drew (S := fun w' => Below w.heap.size w w') (by kernel_rfl) (hbq.drew) (fun hHeld => ?_)
              refine rtake 0 _ (some 31) _ rfl rfl (by kernel_rfl) (by kernel_rfl) (by kernel_rfl) (fun _ _ _ h => h) (by rfl) hHeld (by intro w hS; go_simp; try with_reducible rfl) ?_
              try (first | (rw [put_some]; dsimp only [List.set]) | rw [put_none])
              refine rtake 1 _ (some 32) _ rfl rfl (by kernel_rfl) (by kernel_rfl) (by kernel_rfl) (fun _ _ _ h => h) (by rfl) hHeld (by intro w hS; go_simp; try with_reducible rfl) ?_
              try (first | (rw [put_some]; dsimp only [List.set]) | rw [put_none])
              refine rtake 2 _ (some 33) _ rfl rfl (by kernel_rfl) (by kernel_rfl) (by kernel_rfl) (fun _ _ _ h => h) (by rfl) hHeld (by intro w hS; go_simp; try with_reducible rfl) ?_
              try (first | (rw [put_some]; dsimp only [List.set]) | rw [put_none])
              refine rtake 3 _ (some 34) _ rfl rfl (by kernel_rfl) (by kernel_rfl) (by kernel_rfl) (fun _ _ _ h => h) (by rfl) hHeld (by intro w hS; go_simp; try with_reducible rfl) ?_
              try (first | (rw [put_some]; dsimp only [List.set]) | rw [put_none])
              refine rtake 4 _ (some 35) _ rfl rfl (by kernel_rfl) (by kernel_rfl) (by kernel_rfl) (fun _ _ _ h => h) (by rfl) hHeld (by intro w hS; go_simp; try with_reducible rfl) ?_
              try (first | (rw [put_some]; dsimp only [List.set]) | rw [put_none])
              refine rtake 5 _ (some 36) _ rfl rfl (by kernel_rfl) (by kernel_rfl) (by kernel_rfl) (fun _ _ _ h => h) (by rfl) hHeld (by intro w hS; go_simp; try with_reducible rfl) ?_
              try (first | (rw [put_some]; dsimp only [List.set]) | rw [put_none])
              refine wpAnyH_done (by kernel_rfl) ?_ _
              refine NoPanic.normal ?_
              go_wp2
              go_roundw
              case rel => exact ⟨q + 1, by omega, by go_num, by rw [HD2.out], hbq.drew⟩
              case measure => simp [intOf]; omega
            · have HD2 := Lib.hid (HD.out.trans (if_neg he))
              have hb : (((hexD q).toNat : Int) == (c.toNat : Int)) = false := by
                rw [beq_eq_false_iff_ne]
                intro h
                exact he (UInt8.toNat_inj.1 (by omega))
              generalize hexD q = x at *
              clear he HD
              go_wp2
              refine wp_region_noPanic ?_
              refine wp_region_held_drew (S := fun w' => Below w.heap.size w w') (by kernel_rfl) (hbq.drew) (fun hHeld => ?_)
              refine rtake 0 _ (some 31) _ rfl rfl (by kernel_rfl) (by kernel_rfl) (by kernel_rfl) (fun _ _ _ h => h) (by rfl) hHeld (by intro w hS; go_simp; try with_reducible rfl) ?_
              try (first | (rw [put_some]; dsimp only [List.set]) | rw [put_none])
              refine rtake 1 _ (some 32) _ rfl rfl (by kernel_rfl) (by kernel_rfl) (by kernel_rfl) (fun _ _ _ h => h) (by rfl) hHeld (by intro w hS; go_simp; try with_reducible rfl) ?_
              try (first | (rw [put_some]; dsimp only [List.set]) | rw [put_none])
              refine rtake 2 _ (some 33) _ rfl rfl (by kernel_rfl) (by kernel_rfl) (by kernel_rfl) (fun _ _ _ h => h) (by rfl) hHeld (by intro w hS; go_simp; try with_reducible rfl) ?_
              try (first | (rw [put_some]; dsimp only [List.set]) | rw [put_none])
              refine rtake 3 _ (some 34) _ rfl rfl (by kernel_rfl) (by kernel_rfl) (by kernel_rfl) (fun _ _ _ h => h) (by rfl) hHeld (by intro w hS; go_simp; try with_reducible rfl) ?_
              try (first | (rw [put_some]; dsimp only [List.set]) | rw [put_none])
              refine rtake 4 _ (some 35) _ rfl rfl (by kernel_rfl) (by kernel_rfl) (by kernel_rfl) (fun _ _ _ h => h) (by rfl) hHeld (by intro w hS; go_simp; try with_reducible rfl) ?_
              try (first | (rw [put_some]; dsimp only [List.set]) | rw [put_none])
              refine rtake 5 _ (some 36) _ rfl rfl (by kernel_rfl) (by kernel_rfl) (by kernel_rfl) (fun _ _ _ h => h) (by rfl) hHeld (by intro w hS; go_simp; try with_reducible rfl) ?_
              try (first | (rw [put_some]; dsimp only [List.set]) | rw [put_none])
              refine wpAnyH_done (by kernel_rfl) ?_ _
              refine NoPanic.normal ?_
              go_wp2
              go_roundw
              case rel => exact ⟨q + 1, by omega, by go_num, by rw [HD2.out], hbq.drew⟩
              case measure => simp [intOf]; omega
          · obtain rfl : q = 16 := by omega
            by_cases hneg : digI 16 c < 0
            · have HV2 := Lib.hid (show valueL 16 most s = none by rw [HV.out, ← HF.out, HG.out, if_pos hneg])
              clear HV HF HG
              go_wp2
              go_ret
              exact ⟨by rw [HV2.out]; rfl, hbq⟩
            · have HG2 := Lib.hid (HF.out.symm.trans (HG.out.trans (if_neg hneg)))
              have hn0 : 0 ≤ digI 16 c := by omega
              have hdc : ((digI 16 c).toNat : Int) = digI 16 c := by omega
              generalize digI 16 c = d at *
              have hw1 : IntKind.i64.wrap ((m : Int) * 16) = (m : Int) * 16 := by rw [IntKind.wrap_i64]; omega
              have hw2 : IntKind.i64.wrap ((m : Int) * 16 + d) = ((m * 16 + d.toNat : Nat) : Int) := by rw [IntKind.wrap_i64]; omega
              have hm2 : m * 16 + d.toNat < 16 ^ (k + 1) := by rw [HP.out]; omega
              generalize m * 16 + d.toNat = m2 at *
              clear HF HG hneg hdc
              go_wp2
              go_roundw
              case rel => exact ⟨k + 1, m2, by omega, by go_num, rfl, hm2, HG2.out.symm, hbq⟩
              case measure => simp [intOf]; omega
      · obtain rfl : k = s.length := by omega
        have HV2 := Lib.hid (show valueL 16 most s = if numL 16 m = s then some m else none by
          rw [HV.out, ← hf, List.drop_length]; rfl)
        have hmm : m < 16 ^ 4 := Nat.lt_of_lt_of_le hmk (Nat.pow_le_pow_right (by omega) (by omega))
        have hn := Lib.hid (fun w' => rnum16_any m m w' (Nat.le_refl _) (by omega))
        clear HV hf
        by_cases he : numL 16 m = s
        · have HV3 := Lib.hid (HV2.out.trans (if_pos he))
          rw [he] at hn
          clear HV2 he
          go_wp2_with (go_at_call 43; refine (hn.out _).mono ?_; rintro e w1 ⟨rfl, hb1⟩)
          go_ret
          exact ⟨by rw [HV3.out]; rfl, hbr.trans (hb1.mono hbr.size)⟩
        · have HV3 := Lib.hid (HV2.out.trans (if_neg he))
          have hne : ((bstr (numL 16 m)).toList == (bstr s).toList) = false := by rw [bstr_beq]; exact decide_eq_false he
          generalize numL 16 m = X at *
          clear HV2 he
          go_wp2_with (go_at_call 43; refine (hn.out _).mono ?_; rintro e w1 ⟨rfl, hb1⟩)
          go_ret
          exact ⟨by rw [HV3.out]; rfl, hbr.trans (hb1.mono hbr.size)⟩
end Go.Proofs.YtflebnbpoboljaaDoor
