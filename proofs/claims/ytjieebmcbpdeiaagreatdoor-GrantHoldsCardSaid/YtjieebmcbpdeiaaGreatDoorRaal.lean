import Derived.Test.YtjieebmcbpdeiaaGreatDoorRaah
import Derived.Test.YtjieebmcbpdeiaaGreatDoorRaag
import Derived.Test.YtjieebmcbpdeiaaGreatDoorRaad
namespace Go.Proofs.YtjieebmcbpdeiaaGreatDoor
set_option maxRecDepth 100000
open Go Go.RowKit
theorem digI_ten16 (c : UInt8) : digI 10 c = if 48 ≤ c.toNat ∧ c.toNat ≤ 57 then (c.toNat : Int) - 48 else -1 := by
 have h : ∀ n : Fin 256, digI 10 (UInt8.ofNat n.1) = if 48 ≤ n.1 ∧ n.1 ≤ 57 then (n.1 : Int) - 48 else -1 := by decide +kernel
 have := h ⟨c.toNat, c.toNat_lt⟩
 simpa using this
theorem fold_bad16 (s : List UInt8) (k m : Nat) (h : k < s.length) (hc : ¬ (48 ≤ (s.getD k 0).toNat ∧ (s.getD k 0).toNat ≤ 57)) : foldV 10 m (s.drop k) = none := by
 rw [foldV_at 10 m k s h, digI_ten16, if_neg hc]; rfl
theorem fold_good16 (s : List UInt8) (k m : Nat) (h : k < s.length) (hc : 48 ≤ (s.getD k 0).toNat ∧ (s.getD k 0).toNat ≤ 57) : foldV 10 m (s.drop k) = foldV 10 (m * 10 + ((s.getD k 0).toNat - 48)) (s.drop (k + 1)) := by
 rw [foldV_at 10 m k s h, digI_ten16, if_pos hc, if_neg (by omega)]
 congr 1
 omega
def numAns (o : Option Nat) : Value := .tuple #[.int .u64 ((o.getD 0 : Nat) : Int), .bool o.isSome]
theorem number_long (s : List UInt8) (h : 20 < s.length) : numberL s = none := by
 unfold numberL valueL
 rw [if_pos (.inr h)]
theorem number_bad (s : List UInt8) (h : foldV 10 0 s = none) : numberL s = none := by
 unfold numberL valueL
 rw [h]
 split
 ·rfl
 ·rename_i e; split at e <;> cases e
theorem number_mod (s : List UInt8) (_hl : s.length ≤ 20) (V : Nat) (h : foldV 10 0 s = some V) : numberL s = if numL 10 (V % 2 ^ 64) = s then some (V % 2 ^ 64) else none := by
 by_cases he : numL 10 (V % 2 ^ 64) = s
 ·rw [if_pos he]
  have hlt : V % 2 ^ 64 < 2 ^ 64 := Nat.mod_lt _ (by decide)
  have := number_num (V % 2 ^ 64) hlt
  rw [he] at this
  exact this
 ·rw [if_neg he]
  unfold numberL
  cases hv : valueL 10 20 s with
  | none => rfl
  | some n =>
   obtain ⟨h1, -⟩ := (valueL_iff 10 20 (by omega) (by omega) s n).1 hv
   have h2 := foldV_num 10 (by omega) (by omega) n
   rw [h1, h] at h2
   cases h2
   show (if V < 2 ^ 64 then some V else none) = none
   rw [if_neg]
   intro hn
   rw [Nat.mod_eq_of_lt hn] at he
   exact he h1
set_option maxHeartbeats 4000000 in
theorem rnumber16_any (s : List UInt8) (hs : s.length ≤ 100000) (w : World) : Calls Tryz.prog 53 #[.string (bstr s)] w fun e w' => e = .returned (numAns (numberL s)) ∧ Below w.heap.size w w' := by
 have hz := size_bstr s
 by_cases hlong : 20 < s.length
 ·have HV := Lib.hid (number_long s hlong)
  have a1 : (20 : Int) < (s.length : Int) := by omega
  clear hlong
  go_enter Tryz.func53, Tryz.ntmps53
  go_wp2
  go_ret2
  exact ⟨by rw [HV.out]; rfl, Below.refl _ _⟩
 ·have a1 : decide ((20 : Int) < (s.length : Int)) = false := decide_eq_false (by omega)
  have HL := Lib.hid (show s.length ≤ 20 by omega)
  go_enter Tryz.func53, Tryz.ntmps53
  go_wp2
  clear a1 hlong
  go_loop [4, 5] (fun x i => ∃ k m V : Nat, k ≤ s.length ∧ i = .int .i64 k ∧ x = .int .u64 m ∧ m = V % 2 ^ 64 ∧ foldV 10 V (s.drop k) = foldV 10 0 s) (fun _ i => s.length - (intOf i).toNat)
  case atStart => exact ⟨0, 0, 0, by omega, rfl, rfl, rfl, rfl⟩
  case round =>
   obtain ⟨k, m, V, hk, rfl, rfl, hmV, hf⟩ := hrel
   by_cases hlt : k < s.length
   ·have hlt' : (k : Int) < (s.length : Int) := by omega
    have hix := index_bstr s k hlt
    have HB := Lib.hid (fun h => hf.symm.trans (fold_bad16 s k V hlt h))
    have HG := Lib.hid (fun h => (fold_good16 s k V hlt h).symm.trans hf)
    have hbd := byte_bd (s.getD k 0)
    generalize s.getD k 0 = c at *
    clear hf
    by_cases hc : 48 ≤ c.toNat ∧ c.toNat ≤ 57
    ·have HN := Lib.hid (HG.out hc)
     have c1 : decide ((c.toNat : Int) < 48) = false := decide_eq_false (by omega)
     have c2 : decide ((57 : Int) < (c.toNat : Int)) = false := decide_eq_false (by omega)
     obtain ⟨m1, hm1⟩ : ∃ m1 : Nat, m1 = m * 10 % 2 ^ 64 := ⟨_, rfl⟩
     obtain ⟨m2, hm2⟩ : ∃ m2 : Nat, m2 = (m1 + c.toNat) % 2 ^ 64 := ⟨_, rfl⟩
     obtain ⟨m3, hm3⟩ : ∃ m3 : Nat, m3 = (V * 10 + (c.toNat - 48)) % 2 ^ 64 := ⟨_, rfl⟩
     have hw1 : IntKind.u64.wrap ((m : Int) * 10) = (m1 : Int) := by rw [IntKind.wrap_u64]; omega
     have hw0 : IntKind.u64.wrap (c.toNat : Int) = (c.toNat : Int) := by rw [IntKind.wrap_u64]; omega
     have hw2 : IntKind.u64.wrap ((m1 : Int) + (c.toNat : Int)) = (m2 : Int) := by rw [IntKind.wrap_u64]; omega
     have hw3 : IntKind.u64.wrap ((m2 : Int) - 48) = (m3 : Int) := by rw [IntKind.wrap_u64]; omega
     have HM3 := Lib.hid hm3
     clear HB HG hc hmV hm1 hm2 hm3
     go_wp2
     go_round
     case rel => exact ⟨k + 1, m3, V * 10 + (c.toNat - 48), by omega, by go_num, rfl, HM3.out, HN.out⟩
     case measure => simp [intOf]; omega
    ·have HW := Lib.hid (number_bad s (HB.out hc))
     clear HB HG hmV
     by_cases c1 : c.toNat < 48
     ·have c1' : (c.toNat : Int) < 48 := by omega
      clear hc c1
      go_wp2
      go_ret2
      exact ⟨by rw [HW.out]; rfl, Below.refl _ _⟩
     ·have c1' : decide ((c.toNat : Int) < 48) = false := decide_eq_false (by omega)
      have c2' : (57 : Int) < (c.toNat : Int) := by omega
      clear hc c1
      go_wp2
      go_ret2
      exact ⟨by rw [HW.out]; rfl, Below.refl _ _⟩
   ·obtain rfl : k = s.length := by omega
    have hf0 : foldV 10 0 s = some V := by rw [← hf, List.drop_length]; rfl
    have hval := number_mod s HL.out V hf0
    rw [← hmV] at hval
    have hm64 : m < 2 ^ 64 := by rw [hmV]; exact Nat.mod_lt _ (by decide)
    have hn := Lib.hid (fun w' => rdig16_any m m w' (Nat.le_refl _) hm64)
    have he := bstr_beq (numL 10 m) s
    have HW := Lib.hid hval
    clear hf hf0 hval hmV
    by_cases hs2 : numL 10 m = s
    ·have HX := Lib.hid (HW.out.trans (if_pos hs2))
     rw [decide_eq_true hs2] at he
     clear HW hs2
     generalize numL 10 m = X at *
     go_wp2_with (go_at_call 90; refine (hn.out _).mono ?_; rintro e w1 ⟨rfl, hb1⟩)
     go_ret2
     exact ⟨by rw [HX.out]; rfl, hb1⟩
    ·have HX := Lib.hid (HW.out.trans (if_neg hs2))
     rw [decide_eq_false hs2] at he
     clear HW hs2
     generalize numL 10 m = X at *
     go_wp2_with (go_at_call 90; refine (hn.out _).mono ?_; rintro e w1 ⟨rfl, hb1⟩)
     go_ret2
     exact ⟨by rw [HX.out]; rfl, hb1⟩
theorem words_far (s : List UInt8) (h0 : s ≠ []) (h : 512 < s.length) : wordsL s = none := by
 unfold wordsL
 rw [if_neg h0, if_neg (fun k => by omega)]
theorem words_ink (s : List UInt8) (h0 : s ≠ []) (h : s.all inkB = false) : wordsL s = none := by
 unfold wordsL
 rw [if_neg h0, if_neg (fun k => by rw [h] at k; cases k.2.1)]
theorem words_split (s : List UInt8) (h0 : s ≠ []) (hl : s.length ≤ 512) (h : s.all inkB = true) : wordsL s = if (splitL 32 s).all (fun p => decide (p ≠ [])) = true then some (splitL 32 s) else none := by
 unfold wordsL
 rw [if_neg h0]
 by_cases hk : (splitL 32 s).all (fun p => decide (p ≠ [])) = true
 ·rw [if_pos ⟨hl, h, hk⟩, if_pos hk]
 ·rw [if_neg (fun k => hk k.2.2), if_neg hk]
theorem bstr_empty (s : List UInt8) : (bstr s).toList.isEmpty = decide (s = []) := by
 rw [bstr_toList]
 cases s <;> rfl
def parsV (o : Option Adr) : Value := match o with
 | none => .tuple #[.agg (adrV zeroA).toArray, .bool false]
 | some a => .tuple #[.agg (adrV a).toArray, .bool true]
set_option maxHeartbeats 2000000 in
theorem rparse_four (s : List UInt8) (hs : s.length ≤ 1000) (l : List Nat) (hn : numbersL 10 3 255 46 s = some l) (h4 : l.length = 4) (w : World) :
  Calls Tryz.prog 93 #[.string (bstr s)] w fun e w' => e = .returned (parsV (some (fourA l))) ∧ Below w.heap.size w w' := by
 have hm := ((numbersL_iff 10 3 255 46 (by omega) (by omega) (.inl rfl) s l).1 hn).2
 have hnum := Lib.hid (fun w' => rnumbers10_any s hs w')
 rw [hn] at hnum
 match l, h4, hm with
 | [a, b, c, d], _, hm =>
 have ha := (hm a (by simp)).1
 have hb := (hm b (by simp)).1
 have hc := (hm c (by simp)).1
 have hd := (hm d (by simp)).1
 have HF := Lib.hid (show (adrV (fourA [a, b, c, d])) = [.bool false, .int .u8 ((UInt8.ofNat a).toNat : Int), .int .u8 ((UInt8.ofNat b).toNat : Int), .int .u8 ((UInt8.ofNat c).toNat : Int), .int .u8 ((UInt8.ofNat d).toNat : Int)] ++ byts (List.replicate 12 0) from rfl)
 have hwa : IntKind.u8.wrap (a : Int) = ((UInt8.ofNat a).toNat : Int) := by rw [IntKind.wrap_u8, UInt8.toNat_ofNat']; omega
 have hwb : IntKind.u8.wrap (b : Int) = ((UInt8.ofNat b).toNat : Int) := by rw [IntKind.wrap_u8, UInt8.toNat_ofNat']; omega
 have hwc : IntKind.u8.wrap (c : Int) = ((UInt8.ofNat c).toNat : Int) := by rw [IntKind.wrap_u8, UInt8.toNat_ofNat']; omega
 have hwd : IntKind.u8.wrap (d : Int) = ((UInt8.ofNat d).toNat : Int) := by rw [IntKind.wrap_u8, UInt8.toNat_ofNat']; omega
 have r0 : Row (w.alloc (.cells (adrV zeroA).toArray 26)) w.heap.size 26 (adrV zeroA) := Row.new w _ _
 have hok : (fourA [a, b, c, d]).Ok := rfl
 have hsz := Lib.hid (show (Tryz.prog.info? 26).map (·.size) = some (adrV (fourA [a, b, c, d])).length by rw [size_adr, length_adrV hok])
 have HV1 := Lib.hid (adrV_one (fourA [a, b, c, d]))
 have HVl := Lib.hid (show 0 + (adrV (fourA [a, b, c, d])).length ≤ (adrV zeroA).length by rw [length_adrV hok, length_adrV zeroA_ok]; exact Nat.le_refl _)
 have HSP := Lib.hid (show splice (adrV zeroA) 0 (adrV (fourA [a, b, c, d])) = adrV (fourA [a, b, c, d]) from rfl)
 have hb0 : Below w.heap.size w (w.alloc (.cells (adrV zeroA).toArray 26)) := (Below.refl _ w).alloc (Nat.le_refl _) _
 clear hm hn
 go_enter Tryz.func93, Tryz.ntmps93
 go_wp2_with (go_at_call 122; refine (hnum.out _).mono ?_; rintro e w3 ⟨v3, rfl, ⟨u, rfl, hown⟩, hb3⟩; obtain ⟨A, cc, rfl, -, hsl⟩ := Sl.of_own hown; have hr3 := r0.later hb3 r0.lt; have hb3 := hb0.trans (hb3.mono hb0.size))
 obtain ⟨bk, o, rfl, -, -⟩ := hsl.rd.get (i := 0) (by rw [length_intsV]; simp)
 have hne : bk ≠ w.heap.size := own_apart hown (by rw [World.size_alloc]; omega) ⟨bk, o, none⟩ rfl
 have hcs := fun w' (hg : World.grownBy w3 w' (some w.heap.size)) => hsl.apart hg (fun _ a ha => by cases ha; exact hne)
 have hc0 : ∀ w', World.grownBy w3 w' (some w.heap.size) → w'.cell? ⟨bk, o, none⟩ = some (.int .i64 (a : Int)) := fun w' hg => ints_cell (hcs w' hg) 0 (by simp)
 have hc1 : ∀ w', World.grownBy w3 w' (some w.heap.size) → w'.cell? ⟨bk, o + 1, none⟩ = some (.int .i64 (b : Int)) := fun w' hg => ints_cell (hcs w' hg) 1 (by simp)
 have hc2 : ∀ w', World.grownBy w3 w' (some w.heap.size) → w'.cell? ⟨bk, o + 2, none⟩ = some (.int .i64 (c : Int)) := fun w' hg => ints_cell (hcs w' hg) 2 (by simp)
 have hc3 : ∀ w', World.grownBy w3 w' (some w.heap.size) → w'.cell? ⟨bk, o + 3, none⟩ = some (.int .i64 (d : Int)) := fun w' hg => ints_cell (hcs w' hg) 3 (by simp)
 have hb3g := hb3.size
 clear hcs hsl hown r0 hb0
 generalize adrV (fourA [a, b, c, d]) = V at *
 refine wp_region_noPanic ?_
 refine wp_region_held_drew (S := fun w' => World.grownBy w3 w' (some w.heap.size)) (by kernel_rfl) (grown_of_below (Below.refl _ _).drew _) (fun hHeld => ?_)
 refine rtake 0 _ (some 23) _ rfl rfl (by kernel_rfl) (by kernel_rfl) (by kernel_rfl) (fun _ _ _ h => h) (by rfl) hHeld (by intro w hS; go_simp; try with_reducible rfl) ?_
 try (first | (rw [put_some]; dsimp only [List.set]) | rw [put_none])
 refine rtake 1 _ (some 24) _ rfl rfl (by kernel_rfl) (by kernel_rfl) (by kernel_rfl) (fun _ _ _ h => h) (by rfl) hHeld (by intro w hS; go_simp; try with_reducible rfl) ?_
 try (first | (rw [put_some]; dsimp only [List.set]) | rw [put_none])
 refine rtake 2 _ (some 25) _ rfl rfl (by kernel_rfl) (by kernel_rfl) (by kernel_rfl) (fun _ _ _ h => h) (by rfl) hHeld (by intro w hS; go_simp; try with_reducible rfl) ?_
 try (first | (rw [put_some]; dsimp only [List.set]) | rw [put_none])
 refine rtake 3 _ (some 26) _ rfl rfl (by kernel_rfl) (by kernel_rfl) (by kernel_rfl) (fun _ _ _ h => h) (by rfl) hHeld (by intro w hS; go_simp; try with_reducible rfl) ?_
 try (first | (rw [put_some]; dsimp only [List.set]) | rw [put_none])
 refine rtake 4 _ (some 27) _ rfl rfl (by kernel_rfl) (by kernel_rfl) (by kernel_rfl) (fun _ _ _ h => h) (by rfl) hHeld (by intro w hS; go_simp; try with_reducible rfl) ?_
 try (first | (rw [put_some]; dsimp only [List.set]) | rw [put_none])
 refine rtake 5 _ (some 28) _ rfl rfl (by kernel_rfl) (by kernel_rfl) (by kernel_rfl) (fun _ _ _ h => h) (by rfl) hHeld (by intro w hS; go_simp; try with_reducible rfl) ?_
 try (first | (rw [put_some]; dsimp only [List.set]) | rw [put_none])
 refine rtake 6 _ (some 29) _ rfl rfl (by kernel_rfl) (by kernel_rfl) (by kernel_rfl) (fun _ _ _ h => h) (by rfl) hHeld (by intro w hS; go_simp; try with_reducible rfl) ?_
 try (first | (rw [put_some]; dsimp only [List.set]) | rw [put_none])
 refine rtake 7 _ (some 30) _ rfl rfl (by kernel_rfl) (by kernel_rfl) (by kernel_rfl) (fun _ _ _ h => h) (by rfl) hHeld (by intro w hS; go_simp; try with_reducible rfl) ?_
 try (first | (rw [put_some]; dsimp only [List.set]) | rw [put_none])
 refine rtake 8 _ (some 31) _ rfl rfl (by kernel_rfl) (by kernel_rfl) (by kernel_rfl) (fun _ _ _ h => h) (by rfl) hHeld (by intro w hS; go_simp; try with_reducible rfl) ?_
 try (first | (rw [put_some]; dsimp only [List.set]) | rw [put_none])
 refine rtake 9 _ (some 32) _ rfl rfl (by kernel_rfl) (by kernel_rfl) (by kernel_rfl) (fun _ _ _ h => h) (by rfl) hHeld (by intro w hS; go_simp; try with_reducible rfl) ?_
 try (first | (rw [put_some]; dsimp only [List.set]) | rw [put_none])
 refine rtake 10 _ (some 33) _ rfl rfl (by kernel_rfl) (by kernel_rfl) (by kernel_rfl) (fun _ _ _ h => h) (by rfl) hHeld (by intro w hS; go_simp; try with_reducible rfl) ?_
 try (first | (rw [put_some]; dsimp only [List.set]) | rw [put_none])
 refine rtake 11 _ (some 34) _ rfl rfl (by kernel_rfl) (by kernel_rfl) (by kernel_rfl) (fun _ _ _ h => h) (by rfl) hHeld (by intro w hS; go_simp; try with_reducible rfl) ?_
 try (first | (rw [put_some]; dsimp only [List.set]) | rw [put_none])
 refine rtake 12 _ (some 35) _ rfl rfl (by kernel_rfl) (by kernel_rfl) (by kernel_rfl) (fun _ _ _ h => h) (by rfl) hHeld (by intro w hS; go_simp; try with_reducible rfl) ?_
 try (first | (rw [put_some]; dsimp only [List.set]) | rw [put_none])
 refine rtake 13 _ (some 36) _ rfl rfl (by kernel_rfl) (by kernel_rfl) (by kernel_rfl) (fun _ _ _ h => h) (by rfl) hHeld (by intro w hS; go_simp; try with_reducible rfl) ?_
 try (first | (rw [put_some]; dsimp only [List.set]) | rw [put_none])
 refine rtake 14 _ (some 37) _ rfl rfl (by kernel_rfl) (by kernel_rfl) (by kernel_rfl) (fun _ _ _ h => h) (by rfl) hHeld (by intro w hS; go_simp; try with_reducible rfl) ?_
 try (first | (rw [put_some]; dsimp only [List.set]) | rw [put_none])
 refine rtake 15 _ (some 38) _ rfl rfl (by kernel_rfl) (by kernel_rfl) (by kernel_rfl) (fun _ _ _ h => h) (by rfl) hHeld (by intro w hS; go_simp; try with_reducible rfl) ?_
 try (first | (rw [put_some]; dsimp only [List.set]) | rw [put_none])
 refine rtake 16 _ (some 39) _ rfl rfl (by kernel_rfl) (by kernel_rfl) (by kernel_rfl) (fun _ _ _ h => h) (by rfl) hHeld (by intro w hS; go_simp; try with_reducible rfl) ?_
 try (first | (rw [put_some]; dsimp only [List.set]) | rw [put_none])
 refine rtake 17 _ (some 40) _ rfl rfl (by kernel_rfl) (by kernel_rfl) (by kernel_rfl) (fun _ _ _ h => h) (by rfl) hHeld (by intro w hS; go_simp; try with_reducible rfl) ?_
 try (first | (rw [put_some]; dsimp only [List.set]) | rw [put_none])
 refine wpAnyH_ready (rs := [18]) (by kernel_rfl) (by simp) (AllReadyH.cons (o := _) rfl (fun K hK => ?_) AllReadyH.nil)
 refine step_store_row none rfl (by rfl) 26 (.tmp 2) (.tmp 40) rfl w.heap.size 0 26 (adrV zeroA) V rfl (by rw [HF.out]; rfl) (hr3.later (Below.refl _ _).drew hr3.lt) HVl.out hsz.out HV1.out ?_; intro w4 hr4 hg4; have hr4 : Row w4 w.heap.size 26 V := (by rw [HSP.out] at hr4; exact hr4)
 refine hK.out _ _ (grown_trans hHeld hg4) (fun hHeld => ?_)
 clear hK K
 try (first | (rw [put_some]; dsimp only [List.set]) | rw [put_none])
 refine rtake 19 _ (some 3) _ rfl rfl (by kernel_rfl) (by kernel_rfl) (by kernel_rfl) (fun _ _ _ h => h) (by rfl) hHeld (by intro w hS; go_simp; try with_reducible rfl) ?_
 try (first | (rw [put_some]; dsimp only [List.set]) | rw [put_none])
 refine wpAnyH_done (by kernel_rfl) ?_ _
 refine NoPanic.normal ?_
 have hb5 : Below w.heap.size w w4 := hb3.drew.grown hg4 hb3g (fun k h => by cases h; exact Nat.le_refl _)
 have hszA := Lib.hid (show (Tryz.prog.info? 26).map (·.size) = some V.toArray.size by rw [List.size_toArray]; exact hsz.out)
 have R4 := Lib.hid (show w4.heap[w.heap.size]? = some (.cells V.toArray 26 (0, 0)) from hr4)
 clear hHeld hr4 hg4
 go_wp2_with fail
 exact ⟨rfl, _, results_row_tmp rfl _ _ w.heap.size 26 V.toArray (0, 0) _ rfl R4.out Tryz.underlying26 rfl hszA.out _ rfl, by rw [HF.out]; rfl, hb5⟩
theorem findC_none_at (s : List UInt8) (h : findC s = none) (k : Nat) (hk : k + 1 < s.length) : ¬ (s.getD k 0 = 58 ∧ s.getD (k + 1) 0 = 58) := by
 induction s generalizing k with
 | nil => simp at hk
 | cons c s ih =>
  cases s with
  | nil => simp at hk
  | cons d s =>
   by_cases hcd : c = 58 ∧ d = 58
   ·have : findC (c :: d :: s) = some 0 := if_pos hcd
    rw [this] at h; cases h
   ·rw [findC_cons c d s hcd, Option.map_eq_none_iff] at h
    cases k with
    | zero => exact hcd
    | succ k => exact ih h k (by simpa using hk)
set_option maxHeartbeats 2000000 in
theorem rparse_plainA (s : List UInt8) (hs : s.length ≤ 1000) (hn : numbersL 10 3 255 46 s = none) (hf : findC s = none) (w : World) :
  Calls Tryz.prog 93 #[.string (bstr s)] w fun e w' => e = .returned (parsV (parse6 s)) ∧ Below w.heap.size w w' := by
 have hz := size_bstr s
 have hnum := Lib.hid (fun w' => rnumbers10_any s hs w')
 rw [hn] at hnum
 have hnum6 := Lib.hid (fun w' => rnumbers16_any s hs w')
 have HP0 := Lib.hid (show parse6 s = match numbersL 16 4 65535 58 s with | none => none | some l => if l.length = 8 ∧ textA (sixA l) = s then some (sixA l) else none by unfold parse6; rw [hf]; cases numbersL 16 4 65535 58 s <;> rfl)
 have HC := Lib.hid (findC_none_at s hf)
 have r0 : Row (w.alloc (.cells (adrV zeroA).toArray 26)) w.heap.size 26 (adrV zeroA) := Row.new w _ _
 have hb0 : Below w.heap.size w (w.alloc (.cells (adrV zeroA).toArray 26)) := (Below.refl _ w).alloc (Nat.le_refl _) _
 clear hf
 go_enter Tryz.func93, Tryz.ntmps93
 go_wp2_with (go_at_call 122; refine (hnum.out _).mono ?_; rintro e w3 ⟨v3, rfl, rfl, hb3⟩; have hr3 := r0.later hb3 r0.lt; have hb3 := hb0.trans (hb3.mono hb0.size))
 clear r0 hb0 hnum
 go_loopw [6, 7] (fun v i wr => v = .int .i64 (-1) ∧ ∃ k : Nat, k ≤ s.length ∧ i = .int .i64 k ∧ Row wr w.heap.size 26 (adrV zeroA) ∧ Below w.heap.size w wr) (fun _ i _ => s.length - (intOf i).toNat)
 case atStart => exact ⟨rfl, 0, by omega, rfl, hr3, hb3⟩
 case round =>
  clear hr3 hb3
  obtain ⟨rfl, k, hk, rfl, hr4, hb4⟩ := hrel
  have hw1 : IntKind.i64.wrap ((k : Int) + 1) = (k : Int) + 1 := by rw [IntKind.wrap_i64]; omega
  by_cases hlt : k + 1 < s.length
  ·have hlt' : (k : Int) + 1 < (s.length : Int) := by omega
   have hix1 := index_bstr s k (by omega)
   have hix2 : ∀ w, (Instr.index 9 (.string (bstr s)) (.int .i64 ((k : Int) + 1))).run Tryz.prog w = .ok (.int .u8 ((s.getD (k + 1) 0).toNat : Int)) w := index_bstr s (k + 1) hlt
   have hno := HC.out k hlt
   generalize s.getD k 0 = x at *
   generalize s.getD (k + 1) 0 = y at *
   by_cases hx : x = 58
   ·have hy : ((y.toNat : Int) == 58) = false := by
     rw [beq_eq_false_iff_ne]
     intro h
     exact hno ⟨hx, UInt8.toNat_inj.1 (by show y.toNat = 58; omega)⟩
    have hxe : ((x.toNat : Int) == 58) = true := by rw [hx]; rfl
    clear hno hx
    go_wp2
    go_roundw
    case rel => exact ⟨rfl, k + 1, by omega, by go_num, hr4, hb4⟩
    case measure => simp [intOf]; omega
   ·have hxe : ((x.toNat : Int) == 58) = false := by
     rw [beq_eq_false_iff_ne]
     intro h
     exact hx (UInt8.toNat_inj.1 (by show x.toNat = 58; omega))
    clear hno hx
    go_wp2
    go_roundw
    case rel => exact ⟨rfl, k + 1, by omega, by go_num, hr4, hb4⟩
    case measure => simp [intOf]; omega
  ·have hge : (s.length : Int) ≤ (k : Int) + 1 := by omega
   have hzz := Lib.hid (show (Tryz.prog.info? 26).map (·.size) = some (adrV zeroA).toArray.size by rw [size_adr, List.size_toArray, length_adrV zeroA_ok])
   have HZ1 := Lib.hid (show (adrV zeroA).toArray.all (·.oneCell') = true from all_one (adrV_one _))
   cases hn6 : numbersL 16 4 65535 58 s with
   | none =>
    have HP := Lib.hid (show parse6 s = none by rw [HP0.out, hn6])
    rw [hn6] at hnum6
    go_wp2_with (first
     | (go_at_call 122; refine (hnum6.out _).mono ?_; rintro e w5 ⟨v5, rfl, rfl, hb5⟩; have hr5 := hr4.later hb5 hr4.lt; have hb5 := hb4.trans (hb5.mono hb4.size); have H5 := Lib.hid (show w5.heap[w.heap.size]? = some (.cells (adrV zeroA).toArray 26 (0, 0)) from hr5))
     | (with_reducible refine wpList_store_row rfl 26 (.tmp 2) (.tmp 85) rfl w.heap.size _ rfl rfl 26 (adrV zeroA).toArray H5.out (by kernel_rfl) (by kernel_rfl) (by kernel_rfl) ?_; refine Hid.out ?_))
    refine Lib.hid ?_
    generalize hw6 : World.setRow _ _ _ = w6
    obtain ⟨r6, hg6⟩ := row_set hr5 (show World.setRow _ w.heap.size (adrV zeroA).toArray = w6 from hw6)
    have hb6 := hb5.grown hg6 hb5.size (fun k h => by cases h; exact Nat.le_refl _)
    have R6 := Lib.hid (show w6.heap[w.heap.size]? = some (.cells (adrV zeroA).toArray 26 (0, 0)) from r6)
    clear hw6 r6 hg6
    go_wp2_with fail
    exact ⟨rfl, _, results_row_tmp rfl _ _ w.heap.size 26 (adrV zeroA).toArray (0, 0) _ rfl R6.out Tryz.underlying26 rfl hzz.out _ rfl, by rw [HP.out]; rfl, hb6⟩
   | some l =>
    rw [hn6] at hnum6
    have hm := fun n hn => (((numbersL_iff 16 4 65535 58 (by omega) (by omega) (.inr rfl) s l).1 hn6).2 n hn).1
    by_cases h8 : l.length = 8
    ·have hsx := Lib.hid (fun A c w' (hs : Sl w' A c (intsV l)) => rsix_any l h8 hm A c w' hs)
     have htx := Lib.hid (fun w' => rtextA_any (sixA l) (sixA_ok l h8) w')
     by_cases he : textA (sixA l) = s
     ·have HP := Lib.hid (show parse6 s = some (sixA l) by rw [HP0.out, hn6]; exact if_pos ⟨h8, he⟩)
      have heq : ((bstr (textA (sixA l))).toList == (bstr s).toList) = true := by rw [bstr_beq]; exact decide_eq_true he
      have hVz := Lib.hid (show (Tryz.prog.info? 26).map (·.size) = some (adrV (sixA l)).toArray.size by rw [size_adr, List.size_toArray, length_adrV (sixA_ok l h8)])
      have hVs := Lib.hid (show (adrV zeroA).toArray.size = (adrV (sixA l)).toArray.size by rw [List.size_toArray, List.size_toArray, length_adrV zeroA_ok, length_adrV (sixA_ok l h8)])
      have hV1 := Lib.hid (show (adrV (sixA l)).toArray.all (·.oneCell') = true from all_one (adrV_one _))
      have HPV := Lib.hid (show parsV (parse6 s) = .tuple #[.agg (adrV (sixA l)).toArray, .bool true] by rw [HP.out]; rfl)
      generalize textA (sixA l) = X at *
      generalize adrV (sixA l) = V at *
      have tok1 : True := trivial
      clear hm he
      go_wp2_with (first
       | (go_at_call 122; refine (hnum6.out _).mono ?_; rintro e w5 ⟨v5, rfl, ⟨u, rfl, hown⟩, hb5⟩; obtain ⟨A, c, rfl, -, hsl⟩ := Sl.of_own hown; rw [h8]; have hr5 := hr4.later hb5 hr4.lt; have hb5 := hb4.trans (hb5.mono hb4.size); clear hown)
       | (have _t := tok1; go_at_call 124; refine (hsx.out A c _ hsl).mono ?_; rintro e w7 ⟨rfl, hb7⟩; have hr7 := hr5.later hb7 hr5.lt; have hsl7 := hsl.later (Nat.le_refl _) hb7; have hb7 := hb5.trans (hb7.mono hb5.size); clear tok1)
       | (go_at_call 124; refine (hsx.out A c _ hsl8).mono ?_; rintro e w9 ⟨rfl, hb9⟩; have hr9 := hr8.later hb9 hr8.lt; have hb9 := hb8.trans (hb9.mono hb8.size); have H9 := Lib.hid (show w9.heap[w.heap.size]? = some (.cells (adrV zeroA).toArray 26 (0, 0)) from hr9))
       | (go_at_call 123; refine (htx.out _).mono ?_; rintro e w8 ⟨rfl, hb8⟩; have hr8 := hr7.later hb8 hr7.lt; have hsl8 := hsl7.later (Nat.le_refl _) hb8; have hb8 := hb7.trans (hb8.mono hb7.size); have H8 := Lib.hid (show w8.heap[w.heap.size]? = some (.cells (adrV zeroA).toArray 26 (0, 0)) from hr8))
       | (with_reducible refine wpList_store_row rfl 26 (.tmp 2) (.tmp 87) rfl w.heap.size V.toArray rfl rfl 26 (adrV zeroA).toArray H9.out hVz.out hVs.out hV1.out ?_; refine Hid.out ?_))
      refine Lib.hid ?_
      generalize hw6 : World.setRow _ _ _ = w6
      obtain ⟨r6, hg6⟩ := row_set hr9 (show World.setRow _ w.heap.size V.toArray = w6 from hw6)
      have hb6 := hb9.grown hg6 hb9.size (fun k h => by cases h; exact Nat.le_refl _)
      have R6 := Lib.hid (show w6.heap[w.heap.size]? = some (.cells V.toArray 26 (0, 0)) from r6)
      clear hw6 r6 hg6
      go_wp2_with fail
      exact ⟨rfl, _, results_row_tmp rfl _ _ w.heap.size 26 V.toArray (0, 0) _ rfl R6.out Tryz.underlying26 rfl hVz.out _ rfl, by rw [HPV.out]; rfl, hb6⟩
     ·have HP := Lib.hid (show parse6 s = none by rw [HP0.out, hn6]; exact if_neg (fun h => he h.2))
      have hne : ((bstr (textA (sixA l))).toList == (bstr s).toList) = false := by rw [bstr_beq]; exact decide_eq_false he
      generalize textA (sixA l) = X at *
      generalize adrV (sixA l) = V at *
      have tok1 : True := trivial
      clear hm he
      go_wp2_with (first
       | (go_at_call 122; refine (hnum6.out _).mono ?_; rintro e w5 ⟨v5, rfl, ⟨u, rfl, hown⟩, hb5⟩; obtain ⟨A, c, rfl, -, hsl⟩ := Sl.of_own hown; rw [h8]; have hr5 := hr4.later hb5 hr4.lt; have hb5 := hb4.trans (hb5.mono hb4.size); clear hown)
       | (have _t := tok1; go_at_call 124; refine (hsx.out A c _ hsl).mono ?_; rintro e w7 ⟨rfl, hb7⟩; have hr7 := hr5.later hb7 hr5.lt; have hsl7 := hsl.later (Nat.le_refl _) hb7; have hb7 := hb5.trans (hb7.mono hb5.size); clear tok1)
       | (go_at_call 123; refine (htx.out _).mono ?_; rintro e w8 ⟨rfl, hb8⟩; have hr8 := hr7.later hb8 hr7.lt; have hsl8 := hsl7.later (Nat.le_refl _) hb8; have hb8 := hb7.trans (hb8.mono hb7.size); have H8 := Lib.hid (show w8.heap[w.heap.size]? = some (.cells (adrV zeroA).toArray 26 (0, 0)) from hr8))
       | (with_reducible refine wpList_store_row rfl 26 (.tmp 2) (.tmp 85) rfl w.heap.size _ rfl rfl 26 (adrV zeroA).toArray H8.out (by kernel_rfl) (by kernel_rfl) (by kernel_rfl) ?_; refine Hid.out ?_))
      refine Lib.hid ?_
      generalize hw6 : World.setRow _ _ _ = w6
      obtain ⟨r6, hg6⟩ := row_set hr8 (show World.setRow _ w.heap.size (adrV zeroA).toArray = w6 from hw6)
      have hb6 := hb8.grown hg6 hb8.size (fun k h => by cases h; exact Nat.le_refl _)
      have R6 := Lib.hid (show w6.heap[w.heap.size]? = some (.cells (adrV zeroA).toArray 26 (0, 0)) from r6)
      clear hw6 r6 hg6
      go_wp2_with fail
      exact ⟨rfl, _, results_row_tmp rfl _ _ w.heap.size 26 (adrV zeroA).toArray (0, 0) _ rfl R6.out Tryz.underlying26 rfl hzz.out _ rfl, by rw [HP.out]; rfl, hb6⟩
    ·have HP := Lib.hid (show parse6 s = none by rw [HP0.out, hn6]; exact if_neg (fun h => h8 h.1))
     have h8' : ((l.length : Int) == 8) = false := by rw [beq_eq_false_iff_ne]; omega
     clear hm
     go_wp2_with (first
      | (go_at_call 122; refine (hnum6.out _).mono ?_; rintro e w5 ⟨v5, rfl, ⟨u, rfl, hown⟩, hb5⟩; have hr5 := hr4.later hb5 hr4.lt; have hb5 := hb4.trans (hb5.mono hb4.size); have H5 := Lib.hid (show w5.heap[w.heap.size]? = some (.cells (adrV zeroA).toArray 26 (0, 0)) from hr5); obtain ⟨A, c, rfl, -, hsl⟩ := Sl.of_own hown; clear hown)
      | (with_reducible refine wpList_store_row rfl 26 (.tmp 2) (.tmp 85) rfl w.heap.size _ rfl rfl 26 (adrV zeroA).toArray H5.out (by kernel_rfl) (by kernel_rfl) (by kernel_rfl) ?_; refine Hid.out ?_))
     refine Lib.hid ?_
     generalize hw6 : World.setRow _ _ _ = w6
     obtain ⟨r6, hg6⟩ := row_set hr5 (show World.setRow _ w.heap.size (adrV zeroA).toArray = w6 from hw6)
     have hb6 := hb5.grown hg6 hb5.size (fun k h => by cases h; exact Nat.le_refl _)
     have R6 := Lib.hid (show w6.heap[w.heap.size]? = some (.cells (adrV zeroA).toArray 26 (0, 0)) from r6)
     clear hw6 r6 hg6
     go_wp2_with fail
     exact ⟨rfl, _, results_row_tmp rfl _ _ w.heap.size 26 (adrV zeroA).toArray (0, 0) _ rfl R6.out Tryz.underlying26 rfl hzz.out _ rfl, by rw [HP.out]; rfl, hb6⟩
set_option maxHeartbeats 2000000 in
theorem rparse_plainB (s : List UInt8) (hs : s.length ≤ 1000) (l0 : List Nat) (hn : numbersL 10 3 255 46 s = some l0) (h40 : l0.length ≠ 4) (hf : findC s = none) (w : World) :
  Calls Tryz.prog 93 #[.string (bstr s)] w fun e w' => e = .returned (parsV (parse6 s)) ∧ Below w.heap.size w w' := by
 have hz := size_bstr s
 have hnum := Lib.hid (fun w' => rnumbers10_any s hs w')
 rw [hn] at hnum
 have hnum6 := Lib.hid (fun w' => rnumbers16_any s hs w')
 have HP0 := Lib.hid (show parse6 s = match numbersL 16 4 65535 58 s with | none => none | some l => if l.length = 8 ∧ textA (sixA l) = s then some (sixA l) else none by unfold parse6; rw [hf]; cases numbersL 16 4 65535 58 s <;> rfl)
 have HC := Lib.hid (findC_none_at s hf)
 have r0 : Row (w.alloc (.cells (adrV zeroA).toArray 26)) w.heap.size 26 (adrV zeroA) := Row.new w _ _
 have hb0 : Below w.heap.size w (w.alloc (.cells (adrV zeroA).toArray 26)) := (Below.refl _ w).alloc (Nat.le_refl _) _
 have h4' : ((l0.length : Int) == 4) = false := by rw [beq_eq_false_iff_ne]; omega
 clear hf
 go_enter Tryz.func93, Tryz.ntmps93
 go_wp2_with (go_at_call 122; refine (hnum.out _).mono ?_; rintro e w3 ⟨v3, rfl, ⟨u0, rfl, hown0⟩, hb3⟩; obtain ⟨A0, c0, rfl, -, -⟩ := Sl.of_own hown0; clear hown0; have hr3 := r0.later hb3 r0.lt; have hb3 := hb0.trans (hb3.mono hb0.size))
 clear r0 hb0 hnum
 go_loopw [6, 7] (fun v i wr => v = .int .i64 (-1) ∧ ∃ k : Nat, k ≤ s.length ∧ i = .int .i64 k ∧ Row wr w.heap.size 26 (adrV zeroA) ∧ Below w.heap.size w wr) (fun _ i _ => s.length - (intOf i).toNat)
 case atStart => exact ⟨rfl, 0, by omega, rfl, hr3, hb3⟩
 case round =>
  clear hr3 hb3
  obtain ⟨rfl, k, hk, rfl, hr4, hb4⟩ := hrel
  have hw1 : IntKind.i64.wrap ((k : Int) + 1) = (k : Int) + 1 := by rw [IntKind.wrap_i64]; omega
  by_cases hlt : k + 1 < s.length
  ·have hlt' : (k : Int) + 1 < (s.length : Int) := by omega
   have hix1 := index_bstr s k (by omega)
   have hix2 : ∀ w, (Instr.index 9 (.string (bstr s)) (.int .i64 ((k : Int) + 1))).run Tryz.prog w = .ok (.int .u8 ((s.getD (k + 1) 0).toNat : Int)) w := index_bstr s (k + 1) hlt
   have hno := HC.out k hlt
   generalize s.getD k 0 = x at *
   generalize s.getD (k + 1) 0 = y at *
   by_cases hx : x = 58
   ·have hy : ((y.toNat : Int) == 58) = false := by
     rw [beq_eq_false_iff_ne]
     intro h
     exact hno ⟨hx, UInt8.toNat_inj.1 (by show y.toNat = 58; omega)⟩
    have hxe : ((x.toNat : Int) == 58) = true := by rw [hx]; rfl
    clear hno hx
    go_wp2
    go_roundw
    case rel => exact ⟨rfl, k + 1, by omega, by go_num, hr4, hb4⟩
    case measure => simp [intOf]; omega
   ·have hxe : ((x.toNat : Int) == 58) = false := by
     rw [beq_eq_false_iff_ne]
     intro h
     exact hx (UInt8.toNat_inj.1 (by show x.toNat = 58; omega))
    clear hno hx
    go_wp2
    go_roundw
    case rel => exact ⟨rfl, k + 1, by omega, by go_num, hr4, hb4⟩
    case measure => simp [intOf]; omega
  ·have hge : (s.length : Int) ≤ (k : Int) + 1 := by omega
   have hzz := Lib.hid (show (Tryz.prog.info? 26).map (·.size) = some (adrV zeroA).toArray.size by rw [size_adr, List.size_toArray, length_adrV zeroA_ok])
   have HZ1 := Lib.hid (show (adrV zeroA).toArray.all (·.oneCell') = true from all_one (adrV_one _))
   cases hn6 : numbersL 16 4 65535 58 s with
   | none =>
    have HP := Lib.hid (show parse6 s = none by rw [HP0.out, hn6])
    rw [hn6] at hnum6
    go_wp2_with (first
     | (go_at_call 122; refine (hnum6.out _).mono ?_; rintro e w5 ⟨v5, rfl, rfl, hb5⟩; have hr5 := hr4.later hb5 hr4.lt; have hb5 := hb4.trans (hb5.mono hb4.size); have H5 := Lib.hid (show w5.heap[w.heap.size]? = some (.cells (adrV zeroA).toArray 26 (0, 0)) from hr5))
     | (with_reducible refine wpList_store_row rfl 26 (.tmp 2) (.tmp 85) rfl w.heap.size _ rfl rfl 26 (adrV zeroA).toArray H5.out (by kernel_rfl) (by kernel_rfl) (by kernel_rfl) ?_; refine Hid.out ?_))
    refine Lib.hid ?_
    generalize hw6 : World.setRow _ _ _ = w6
    obtain ⟨r6, hg6⟩ := row_set hr5 (show World.setRow _ w.heap.size (adrV zeroA).toArray = w6 from hw6)
    have hb6 := hb5.grown hg6 hb5.size (fun k h => by cases h; exact Nat.le_refl _)
    have R6 := Lib.hid (show w6.heap[w.heap.size]? = some (.cells (adrV zeroA).toArray 26 (0, 0)) from r6)
    clear hw6 r6 hg6
    go_wp2_with fail
    exact ⟨rfl, _, results_row_tmp rfl _ _ w.heap.size 26 (adrV zeroA).toArray (0, 0) _ rfl R6.out Tryz.underlying26 rfl hzz.out _ rfl, by rw [HP.out]; rfl, hb6⟩
   | some l =>
    rw [hn6] at hnum6
    have hm := fun n hn => (((numbersL_iff 16 4 65535 58 (by omega) (by omega) (.inr rfl) s l).1 hn6).2 n hn).1
    by_cases h8 : l.length = 8
    ·have hsx := Lib.hid (fun A c w' (hs : Sl w' A c (intsV l)) => rsix_any l h8 hm A c w' hs)
     have htx := Lib.hid (fun w' => rtextA_any (sixA l) (sixA_ok l h8) w')
     by_cases he : textA (sixA l) = s
     ·have HP := Lib.hid (show parse6 s = some (sixA l) by rw [HP0.out, hn6]; exact if_pos ⟨h8, he⟩)
      have heq : ((bstr (textA (sixA l))).toList == (bstr s).toList) = true := by rw [bstr_beq]; exact decide_eq_true he
      have hVz := Lib.hid (show (Tryz.prog.info? 26).map (·.size) = some (adrV (sixA l)).toArray.size by rw [size_adr, List.size_toArray, length_adrV (sixA_ok l h8)])
      have hVs := Lib.hid (show (adrV zeroA).toArray.size = (adrV (sixA l)).toArray.size by rw [List.size_toArray, List.size_toArray, length_adrV zeroA_ok, length_adrV (sixA_ok l h8)])
      have hV1 := Lib.hid (show (adrV (sixA l)).toArray.all (·.oneCell') = true from all_one (adrV_one _))
      have HPV := Lib.hid (show parsV (parse6 s) = .tuple #[.agg (adrV (sixA l)).toArray, .bool true] by rw [HP.out]; rfl)
      generalize textA (sixA l) = X at *
      generalize adrV (sixA l) = V at *
      have tok1 : True := trivial
      clear hm he
      go_wp2_with (first
       | (go_at_call 122; refine (hnum6.out _).mono ?_; rintro e w5 ⟨v5, rfl, ⟨u, rfl, hown⟩, hb5⟩; obtain ⟨A, c, rfl, -, hsl⟩ := Sl.of_own hown; rw [h8]; have hr5 := hr4.later hb5 hr4.lt; have hb5 := hb4.trans (hb5.mono hb4.size); clear hown)
       | (have _t := tok1; go_at_call 124; refine (hsx.out A c _ hsl).mono ?_; rintro e w7 ⟨rfl, hb7⟩; have hr7 := hr5.later hb7 hr5.lt; have hsl7 := hsl.later (Nat.le_refl _) hb7; have hb7 := hb5.trans (hb7.mono hb5.size); clear tok1)
       | (go_at_call 124; refine (hsx.out A c _ hsl8).mono ?_; rintro e w9 ⟨rfl, hb9⟩; have hr9 := hr8.later hb9 hr8.lt; have hb9 := hb8.trans (hb9.mono hb8.size); have H9 := Lib.hid (show w9.heap[w.heap.size]? = some (.cells (adrV zeroA).toArray 26 (0, 0)) from hr9))
       | (go_at_call 123; refine (htx.out _).mono ?_; rintro e w8 ⟨rfl, hb8⟩; have hr8 := hr7.later hb8 hr7.lt; have hsl8 := hsl7.later (Nat.le_refl _) hb8; have hb8 := hb7.trans (hb8.mono hb7.size); have H8 := Lib.hid (show w8.heap[w.heap.size]? = some (.cells (adrV zeroA).toArray 26 (0, 0)) from hr8))
       | (with_reducible refine wpList_store_row rfl 26 (.tmp 2) (.tmp 87) rfl w.heap.size V.toArray rfl rfl 26 (adrV zeroA).toArray H9.out hVz.out hVs.out hV1.out ?_; refine Hid.out ?_))
      refine Lib.hid ?_
      generalize hw6 : World.setRow _ _ _ = w6
      obtain ⟨r6, hg6⟩ := row_set hr9 (show World.setRow _ w.heap.size V.toArray = w6 from hw6)
      have hb6 := hb9.grown hg6 hb9.size (fun k h => by cases h; exact Nat.le_refl _)
      have R6 := Lib.hid (show w6.heap[w.heap.size]? = some (.cells V.toArray 26 (0, 0)) from r6)
      clear hw6 r6 hg6
      go_wp2_with fail
      exact ⟨rfl, _, results_row_tmp rfl _ _ w.heap.size 26 V.toArray (0, 0) _ rfl R6.out Tryz.underlying26 rfl hVz.out _ rfl, by rw [HPV.out]; rfl, hb6⟩
     ·have HP := Lib.hid (show parse6 s = none by rw [HP0.out, hn6]; exact if_neg (fun h => he h.2))
      have hne : ((bstr (textA (sixA l))).toList == (bstr s).toList) = false := by rw [bstr_beq]; exact decide_eq_false he
      generalize textA (sixA l) = X at *
      generalize adrV (sixA l) = V at *
      have tok1 : True := trivial
      clear hm he
      go_wp2_with (first
       | (go_at_call 122; refine (hnum6.out _).mono ?_; rintro e w5 ⟨v5, rfl, ⟨u, rfl, hown⟩, hb5⟩; obtain ⟨A, c, rfl, -, hsl⟩ := Sl.of_own hown; rw [h8]; have hr5 := hr4.later hb5 hr4.lt; have hb5 := hb4.trans (hb5.mono hb4.size); clear hown)
       | (have _t := tok1; go_at_call 124; refine (hsx.out A c _ hsl).mono ?_; rintro e w7 ⟨rfl, hb7⟩; have hr7 := hr5.later hb7 hr5.lt; have hsl7 := hsl.later (Nat.le_refl _) hb7; have hb7 := hb5.trans (hb7.mono hb5.size); clear tok1)
       | (go_at_call 123; refine (htx.out _).mono ?_; rintro e w8 ⟨rfl, hb8⟩; have hr8 := hr7.later hb8 hr7.lt; have hsl8 := hsl7.later (Nat.le_refl _) hb8; have hb8 := hb7.trans (hb8.mono hb7.size); have H8 := Lib.hid (show w8.heap[w.heap.size]? = some (.cells (adrV zeroA).toArray 26 (0, 0)) from hr8))
       | (with_reducible refine wpList_store_row rfl 26 (.tmp 2) (.tmp 85) rfl w.heap.size _ rfl rfl 26 (adrV zeroA).toArray H8.out (by kernel_rfl) (by kernel_rfl) (by kernel_rfl) ?_; refine Hid.out ?_))
      refine Lib.hid ?_
      generalize hw6 : World.setRow _ _ _ = w6
      obtain ⟨r6, hg6⟩ := row_set hr8 (show World.setRow _ w.heap.size (adrV zeroA).toArray = w6 from hw6)
      have hb6 := hb8.grown hg6 hb8.size (fun k h => by cases h; exact Nat.le_refl _)
      have R6 := Lib.hid (show w6.heap[w.heap.size]? = some (.cells (adrV zeroA).toArray 26 (0, 0)) from r6)
      clear hw6 r6 hg6
      go_wp2_with fail
      exact ⟨rfl, _, results_row_tmp rfl _ _ w.heap.size 26 (adrV zeroA).toArray (0, 0) _ rfl R6.out Tryz.underlying26 rfl hzz.out _ rfl, by rw [HP.out]; rfl, hb6⟩
    ·have HP := Lib.hid (show parse6 s = none by rw [HP0.out, hn6]; exact if_neg (fun h => h8 h.1))
     have h8' : ((l.length : Int) == 8) = false := by rw [beq_eq_false_iff_ne]; omega
     clear hm
     go_wp2_with (first
      | (go_at_call 122; refine (hnum6.out _).mono ?_; rintro e w5 ⟨v5, rfl, ⟨u, rfl, hown⟩, hb5⟩; have hr5 := hr4.later hb5 hr4.lt; have hb5 := hb4.trans (hb5.mono hb4.size); have H5 := Lib.hid (show w5.heap[w.heap.size]? = some (.cells (adrV zeroA).toArray 26 (0, 0)) from hr5); obtain ⟨A, c, rfl, -, hsl⟩ := Sl.of_own hown; clear hown)
      | (with_reducible refine wpList_store_row rfl 26 (.tmp 2) (.tmp 85) rfl w.heap.size _ rfl rfl 26 (adrV zeroA).toArray H5.out (by kernel_rfl) (by kernel_rfl) (by kernel_rfl) ?_; refine Hid.out ?_))
     refine Lib.hid ?_
     generalize hw6 : World.setRow _ _ _ = w6
     obtain ⟨r6, hg6⟩ := row_set hr5 (show World.setRow _ w.heap.size (adrV zeroA).toArray = w6 from hw6)
     have hb6 := hb5.grown hg6 hb5.size (fun k h => by cases h; exact Nat.le_refl _)
     have R6 := Lib.hid (show w6.heap[w.heap.size]? = some (.cells (adrV zeroA).toArray 26 (0, 0)) from r6)
     clear hw6 r6 hg6
     go_wp2_with fail
     exact ⟨rfl, _, results_row_tmp rfl _ _ w.heap.size 26 (adrV zeroA).toArray (0, 0) _ rfl R6.out Tryz.underlying26 rfl hzz.out _ rfl, by rw [HP.out]; rfl, hb6⟩
end Go.Proofs.YtjieebmcbpdeiaaGreatDoor
