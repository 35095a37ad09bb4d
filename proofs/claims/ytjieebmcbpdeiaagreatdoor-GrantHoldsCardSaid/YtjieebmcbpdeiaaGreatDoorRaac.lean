import Derived.Test.YtjieebmcbpdeiaaGreatDoorRaab
import Derived.Test.YtjieebmcbpdeiaaGreatDoorRaaa
namespace Go.Proofs.YtjieebmcbpdeiaaGreatDoor
set_option maxRecDepth 100000
open Go Go.RowKit
theorem infoInt12 : (Tryz.prog.info? 3).map (fun i => (i.zero, i.size, i.bytes)) = some (some (.int .i64 0), 1, 8) := by kernel_rfl
def numA (a : Adr) (i : Nat) : Nat := (a.b.getD (2 * i) 0).toNat * 256 + (a.b.getD (2 * i + 1) 0).toNat
theorem numsA_eq (a : Adr) : numsA a = (List.range 8).map (numA a) := rfl
theorem numA_le (a : Adr) (i : Nat) : numA a i ≤ 65535 := by
 unfold numA
 have := (a.b.getD (2 * i) 0).toNat_lt
 have := (a.b.getD (2 * i + 1) 0).toNat_lt
 omega
def bestK (l : List Nat) (k : Nat) : Nat := (List.range k).foldl (fun best i => if zerosL (l.drop i) > zerosL (l.drop best) then i else best) 0
theorem bestK_succ (l : List Nat) (k : Nat) : bestK l (k + 1) = if zerosL (l.drop k) > zerosL (l.drop (bestK l k)) then k else bestK l k := by
 unfold bestK
 rw [List.range_succ, List.foldl_append]; rfl
theorem bestK_le (l : List Nat) (k : Nat) : bestK l k ≤ k := by
 induction k with
 | zero => exact Nat.le_refl _
 | succ k ih => rw [bestK_succ]; split <;> omega
theorem cut_ints (A : Option Addr) (c : Nat) (l : List Nat) (w0 : World) (h : Sl w0 A c (intsV l)) (i : Nat) (hi : i ≤ l.length) :
  (∃ A' c', (∀ w, (Instr.sliceAt 134 (.slice A l.length c) none (some (.int .i64 i)) none).run Tryz.prog w = .ok (.slice A' i c') w) ∧ Sl w0 A' c' (intsV (l.take i))) ∧
  (∃ A' c', (∀ w, (Instr.sliceAt 134 (.slice A l.length c) (some (.int .i64 i)) none none).run Tryz.prog w = .ok (.slice A' (l.length - i) c') w) ∧ Sl w0 A' c' (intsV (l.drop i))) := by
 have hr := h.room
 rw [length_intsV] at hr
 rw [intsV_take, intsV_drop]
 cases A with
 | none =>
  have hc := h.bare rfl
  subst hc
  have hl : l.length = 0 := by omega
  obtain rfl : l = [] := List.eq_nil_of_length_eq_zero hl
  have ei : i = 0 := by simpa using hi
  subst ei
  clear hr hl hi
  refine ⟨⟨none, 0, fun w => ?_, h⟩, ⟨none, 0, fun w => ?_, h⟩⟩
  ·clear h; go_simp
  ·clear h; go_simp
 | some a =>
  refine ⟨⟨some a, c, fun w => ?_, h.take⟩, ⟨some (if c = i then a else a.add i), c - i, fun w => ?_, ?_⟩⟩
  ·have h2 : (i : Int) ≤ (c : Int) := by omega
   clear h hi hr
   go_simp
  ·have h3 : (i : Int) ≤ (l.length : Int) := by omega
   have h2 : (l.length : Int) ≤ (c : Int) := by omega
   have h4 : ((l.length : Int) - (i : Int)).toNat = l.length - i := by omega
   clear h hi hr
   generalize l.length = n at *
   go_simp
   split <;> rfl
  ·by_cases h0 : 0 < l.length
   ·obtain ⟨b, o, he, _⟩ := h.rd.get (i := 0) (by rw [length_intsV]; exact h0)
    cases he
    rw [Addr.add_lit]
    exact h.from (by rw [length_intsV]; omega) rfl
   ·obtain rfl : l = [] := List.eq_nil_of_length_eq_zero (by omega)
    exact ⟨.inl (by simp [intsV]), by simp [intsV], fun h => by cases h⟩
set_option maxHeartbeats 2000000 in
theorem rtext_six (a : Adr) (h : a.Ok) (h6 : a.v6 = true) (w : World) :
  Calls Tryz.prog 123 #[.agg (adrV a).toArray] w fun e w' => e = .returned (.string (bstr (textA a))) ∧ Below w.heap.size w w' := by
 obtain ⟨i0, hi, hz0, hz1, hz2⟩ := info_parts infoInt12
 obtain ⟨w1, hw1⟩ : ∃ w1, w1 = w.alloc (.cells (adrV a).toArray 26) := ⟨_, rfl⟩
 have hr : Row w1 w.heap.size 26 (adrV a) := by rw [hw1]; exact Row.new w _ _
 have hb : Below w.heap.size w w1 := by rw [hw1]; exact (Below.refl _ w).alloc (Nat.le_refl _) _
 have hchk := Lib.hid (rcheckA_any a h)
 have hT := row_range hr
 have hrl := fun w' (h : Below w1.heap.size w1 w') => hr.later h hr.lt
 have hc : checkA a = true := by unfold checkA; rw [h6]; rfl
 have HT := Lib.hid (show textA a = textN (numsA a) by unfold textA; rw [hc, h6]; rfl)
 have hE := Lib.hid (fun w' (hq : Below w1.heap.size w1 w') => adr_cell h (hrl w' hq))
 have hE6 := Lib.hid (fun w' (hq : Below w1.heap.size w1 w') => adr_v6 (hrl w' hq))
 rw [h6] at hE6
 obtain ⟨V, hV⟩ : ∃ V, V = adrV a := ⟨_, rfl⟩
 have hl := Lib.hid (show (Tryz.prog.info? 26).map (·.size) = some V.length by rw [hV, length_adrV h, size_adr])
 rw [← hV] at hw1 hchk hT ⊢
 rw [hc] at hchk
 clear hV hr hrl
 go_enter Tryz.func123, Tryz.ntmps123
 subst hw1
 go_wp2_with (first
  | (with_reducible refine wpList_load_mid rfl 26 (.tmp 1) rfl w.heap.size 0 rfl V _ hT Tryz.underlying26 rfl hl.out ?_)
  | (go_at_call 45; refine (hchk.out _).mono ?_; rintro e w2 ⟨rfl, hb2⟩; have h6c := hE6.out _ hb2; have hown0 : (w2.alloc (.cells #[] 3)).ownsRow w2.heap.size 3 1 (.slice (some ⟨w2.heap.size, 0, none⟩) 0 0) 0 (intsV []) := World.ownsRow_lit w2 (e := 3) (size := 1) #[] 0 (Nat.le_refl _) (by unfold maxLen; omega) rfl))
 have hE : ∀ w', Below w2.heap.size w2 w' → ∀ k, k < 16 → w'.cell? ⟨w.heap.size, 1 + k, none⟩ = some (.int .u8 ((a.b.getD k 0).toNat : Int)) := fun w' hq => hE.out w' (hb2.trans (hq.mono hb2.size))
 have hb2 := hb.trans (hb2.mono hb.size)
 have hbr0 : Below w2.heap.size w2 (w2.alloc (.cells #[] 3)) := (Below.refl _ w2).alloc (Nat.le_refl _) _
 clear hT hb hE6
 go_loopw [3, 4] (fun v i wr => ∃ k : Nat, k ≤ 8 ∧ i = .int .i64 k ∧ wr.ownsRow w2.heap.size 3 1 v k (intsV ((List.range k).map (numA a))) ∧ Below w2.heap.size w2 wr) (fun _ i _ => 8 - (intOf i).toNat)
 case atStart => exact ⟨0, by omega, rfl, hown0, hbr0⟩
 case round =>
  clear hown0 hbr0
  obtain ⟨k, hk, rfl, hown, hbr⟩ := hrel
  by_cases hlt : k < 8
  ·have hc1 : ∀ w', Below w2.heap.size w2 w' → w'.cell? ⟨w.heap.size, 1 + 2 * k, none⟩ = some (.int .u8 ((a.b.getD (2 * k) 0).toNat : Int)) := fun w' hq => hE w' hq (2 * k) (by omega)
   have hc2 : ∀ w', Below w2.heap.size w2 w' → w'.cell? ⟨w.heap.size, 1 + (2 * k + 1), none⟩ = some (.int .u8 ((a.b.getD (2 * k + 1) 0).toNat : Int)) := fun w' hq => hE w' hq (2 * k + 1) (by omega)
   have HN := Lib.hid (show (List.range (k + 1)).map (numA a) = (List.range k).map (numA a) ++ [(a.b.getD (2 * k) 0).toNat * 256 + (a.b.getD (2 * k + 1) 0).toNat] by rw [List.range_succ, List.map_append]; rfl)
   have hlt' : (k : Int) < 8 := by omega
   generalize a.b.getD (2 * k) 0 = x at *
   generalize a.b.getD (2 * k + 1) 0 = y at *
   have hx := x.toNat_lt
   have hy := y.toNat_lt
   have hI0 : IntKind.i64.wrap (2 * (k : Int)) = 2 * (k : Int) := by rw [IntKind.wrap_i64]; omega
   have hI1 : (0 : Int) ≤ 2 * (k : Int) := by omega
   have hI2 : 2 * (k : Int) < 16 := by omega
   have hI3 : (2 * (k : Int)).toNat = 2 * k := by omega
   have hJ0 : IntKind.i64.wrap (2 * (k : Int) + 1) = 2 * (k : Int) + 1 := by rw [IntKind.wrap_i64]; omega
   have hJ1 : (0 : Int) ≤ 2 * (k : Int) + 1 := by omega
   have hJ2 : 2 * (k : Int) + 1 < 16 := by omega
   have hJ3 : (2 * (k : Int) + 1).toNat = 2 * k + 1 := by omega
   have hX0 : IntKind.i64.wrap (x.toNat : Int) = (x.toNat : Int) := by rw [IntKind.wrap_i64]; omega
   have hY0 : IntKind.i64.wrap (y.toNat : Int) = (y.toNat : Int) := by rw [IntKind.wrap_i64]; omega
   obtain ⟨n, hn⟩ : ∃ n, n = x.toNat * 256 + y.toNat := ⟨_, rfl⟩
   rw [← hn] at HN
   have hX1 : IntKind.i64.wrap ((x.toNat : Int) * 256) = (x.toNat : Int) * 256 := by rw [IntKind.wrap_i64]; omega
   have hX2 : IntKind.i64.wrap ((x.toNat : Int) * 256 + (y.toNat : Int)) = (n : Int) := by rw [IntKind.wrap_i64]; omega
   clear hn hE
   go_wp2_with fail
   refine wp_region_noPanic ?_
   refine wp_region_held_drew (S := fun w' => Below w2.heap.size w2 w') (by kernel_rfl) (hbr.drew) (fun hHeld => ?_)
   refine rtake 0 _ (some 45) _ rfl rfl (by kernel_rfl) (by kernel_rfl) (by kernel_rfl) (fun _ _ _ h => h) (by rfl) hHeld (by intro w hS; go_simp; try with_reducible rfl) ?_
   try (first | (rw [put_some]; dsimp only [List.set]) | rw [put_none])
   refine rtake 1 _ (some 46) _ rfl rfl (by kernel_rfl) (by kernel_rfl) (by kernel_rfl) (fun _ _ _ h => h) (by rfl) hHeld (by intro w hS; go_simp; try with_reducible rfl) ?_
   try (first | (rw [put_some]; dsimp only [List.set]) | rw [put_none])
   refine rtake 2 _ (some 47) _ rfl rfl (by kernel_rfl) (by kernel_rfl) (by kernel_rfl) (fun _ _ _ h => h) (by rfl) hHeld (by intro w hS; go_simp; try with_reducible rfl) ?_
   try (first | (rw [put_some]; dsimp only [List.set]) | rw [put_none])
   refine rtake 3 _ (some 48) _ rfl rfl (by kernel_rfl) (by kernel_rfl) (by kernel_rfl) (fun _ _ _ h => h) (by rfl) hHeld (by intro w hS; go_simp; try with_reducible rfl) ?_
   try (first | (rw [put_some]; dsimp only [List.set]) | rw [put_none])
   refine rtake 4 _ (some 49) _ rfl rfl (by kernel_rfl) (by kernel_rfl) (by kernel_rfl) (fun _ _ _ h => h) (by rfl) hHeld (by intro w hS; go_simp; try with_reducible rfl) ?_
   try (first | (rw [put_some]; dsimp only [List.set]) | rw [put_none])
   refine rtake 5 _ (some 50) _ rfl rfl (by kernel_rfl) (by kernel_rfl) (by kernel_rfl) (fun _ _ _ h => h) (by rfl) hHeld (by intro w hS; go_simp; try with_reducible rfl) ?_
   try (first | (rw [put_some]; dsimp only [List.set]) | rw [put_none])
   refine rtake 6 _ (some 51) _ rfl rfl (by kernel_rfl) (by kernel_rfl) (by kernel_rfl) (fun _ _ _ h => h) (by rfl) hHeld (by intro w hS; go_simp; try with_reducible rfl) ?_
   try (first | (rw [put_some]; dsimp only [List.set]) | rw [put_none])
   refine rtake 7 _ (some 52) _ rfl rfl (by kernel_rfl) (by kernel_rfl) (by kernel_rfl) (fun _ _ _ h => h) (by rfl) hHeld (by intro w hS; go_simp; try with_reducible rfl) ?_
   try (first | (rw [put_some]; dsimp only [List.set]) | rw [put_none])
   refine rtake 8 _ (some 53) _ rfl rfl (by kernel_rfl) (by kernel_rfl) (by kernel_rfl) (fun _ _ _ h => h) (by rfl) hHeld (by intro w hS; go_simp; try with_reducible rfl) ?_
   try (first | (rw [put_some]; dsimp only [List.set]) | rw [put_none])
   refine rtake 9 _ (some 54) _ rfl rfl (by kernel_rfl) (by kernel_rfl) (by kernel_rfl) (fun _ _ _ h => h) (by rfl) hHeld (by intro w hS; go_simp; try with_reducible rfl) ?_
   try (first | (rw [put_some]; dsimp only [List.set]) | rw [put_none])
   refine rtake 10 _ (some 55) _ rfl rfl (by kernel_rfl) (by kernel_rfl) (by kernel_rfl) (fun _ _ _ h => h) (by rfl) hHeld (by intro w hS; go_simp; try with_reducible rfl) ?_
   try (first | (rw [put_some]; dsimp only [List.set]) | rw [put_none])
   refine rtake 11 _ (some 56) _ rfl rfl (by kernel_rfl) (by kernel_rfl) (by kernel_rfl) (fun _ _ _ h => h) (by rfl) hHeld (by intro w hS; go_simp; try with_reducible rfl) ?_
   try (first | (rw [put_some]; dsimp only [List.set]) | rw [put_none])
   refine rtake 12 _ (some 57) _ rfl rfl (by kernel_rfl) (by kernel_rfl) (by kernel_rfl) (fun _ _ _ h => h) (by rfl) hHeld (by intro w hS; go_simp; try with_reducible rfl) ?_
   try (first | (rw [put_some]; dsimp only [List.set]) | rw [put_none])
   refine rtake 13 _ (some 58) _ rfl rfl (by kernel_rfl) (by kernel_rfl) (by kernel_rfl) (fun _ _ _ h => h) (by rfl) hHeld (by intro w hS; go_simp; try with_reducible rfl) ?_
   try (first | (rw [put_some]; dsimp only [List.set]) | rw [put_none])
   refine rtake 14 _ (some 59) _ rfl rfl (by kernel_rfl) (by kernel_rfl) (by kernel_rfl) (fun _ _ _ h => h) (by rfl) hHeld (by intro w hS; go_simp; try with_reducible rfl) ?_
   try (first | (rw [put_some]; dsimp only [List.set]) | rw [put_none])
   refine rtake 15 _ (some 60) _ rfl rfl (by kernel_rfl) (by kernel_rfl) (by kernel_rfl) (fun _ _ _ h => h) (by rfl) hHeld (by intro w hS; go_simp; try with_reducible rfl) ?_
   try (first | (rw [put_some]; dsimp only [List.set]) | rw [put_none])
   refine wpAnyH_ready (rs := [16]) (by kernel_rfl) (by simp) (AllReadyH.cons (o := _) rfl (fun K hK => ?_) AllReadyH.nil)
   refine step_alloc (some 61) rfl (by rfl) (.slice (some ⟨wr.heap.size, 0, none⟩) 1 1) (.cells (intsV [n]).toArray 3) (by go_simp; try rfl) ?_; intro w4 hw4 hb4; have hq4 := hHeld.trans (hb4.mono hHeld.size); have hsl4 : Sl w4 (some ⟨wr.heap.size, 0, none⟩) 1 (intsV [n]) := (by rw [hw4]; exact ⟨Rd.block (Go.heap_alloc_new wr.drew _), Nat.le_refl _, fun h => by cases h⟩); have hown4 := own_later hown ((Below.refl wr.heap.size wr).drew.trans hb4) (Nat.le_refl _); clear hw4
   refine hK.out _ _ (hq4) (fun hHeld => ?_)
   clear hK K
   try (first | (rw [put_some]; dsimp only [List.set]) | rw [put_none])
   refine wpAnyH_ready (rs := [17]) (by kernel_rfl) (by simp) (AllReadyH.cons (o := _) rfl (fun K hK => ?_) AllReadyH.nil)
   refine step_append_at (some 62) rfl (by rfl) (.tmp 45) (.tmp 61) 134 rfl w2.heap.size 3 i0 _ 8 Tryz.underlying134 hi hz0 hz1 hz2 rfl _ k _ rfl hown4 (some ⟨wr.heap.size, 0, none⟩) 1 1 (intsV [n]) rfl rfl hsl4 (intsV_one _) (by unfold maxLen; omega) (by omega) w2 rfl hq4 ?_; intro v5 w5 hown5 hg5 hq5; rw [← intsV_append, ← HN.out] at hown5
   refine hK.out _ _ (hq5) (fun hHeld => ?_)
   clear hK K
   try (first | (rw [put_some]; dsimp only [List.set]) | rw [put_none])
   refine rtake 18 _ (some 3) _ rfl rfl (by kernel_rfl) (by kernel_rfl) (by kernel_rfl) (fun _ _ _ h => h) (by rfl) hHeld (by intro w hS; go_simp; try with_reducible rfl) ?_
   try (first | (rw [put_some]; dsimp only [List.set]) | rw [put_none])
   refine wpAnyH_done (by kernel_rfl) ?_ _
   refine NoPanic.normal ?_
   clear hHeld hown hown4 hsl4 hc1 hc2
   go_wp2
   go_roundw
   case rel => exact ⟨k + 1, by omega, by go_num, hown5, hq5⟩
   case measure => simp [intOf]; omega
  ·have hk8 : (k : Int) = 8 := by omega
   rw [hk8]
   obtain rfl : k = 8 := by omega
   rw [← numsA_eq] at hown
   have hbw := hb2.trans (hbr.mono hb2.size)
   obtain ⟨A, c, rfl, -, hsl⟩ := Sl.of_own hown
   have hL8 : (numsA a).length = 8 := by rw [numsA_eq]; rfl
   have hL := Lib.hid (fun n (hn : n ∈ numsA a) => show n ≤ 65535 by
    rw [numsA_eq] at hn
    obtain ⟨i, _, rfl⟩ := List.mem_map.1 hn
    exact numA_le a i)
   obtain ⟨l, hl⟩ : ∃ l, l = numsA a := ⟨_, rfl⟩
   rw [← hl] at hsl hL8 hL HT
   have hzr := Lib.hid (fun p (hp : p ≤ 8) w' (hs : Sl w' A c (intsV l)) => by have := rzeros_any l p (by omega) (by omega) A c w' hs; rw [hL8] at this; exact this)
   clear hl hown hE hbr hlt hk hk8
   go_wp2
   go_loop [5, 65] (fun b i => ∃ k : Nat, k ≤ 8 ∧ i = .int .i64 k ∧ b = .int .i64 (bestK l k : Nat)) (fun _ i => 8 - (intOf i).toNat)
   case atStart => exact ⟨0, by omega, rfl, rfl⟩
   case round =>
    obtain ⟨k, hk, rfl, rfl⟩ := hrel
    by_cases hlt : k < 8
    ·have hlt' : (k : Int) < 8 := by omega
     have hk1 := hzr.out k (by omega) _ hsl
     have hbk := bestK_le l k
     have hk2 := hzr.out (bestK l k) (by omega) _ hsl
     have HB := Lib.hid (bestK_succ l k)
     by_cases hg : zerosL (l.drop k) > zerosL (l.drop (bestK l k))
     ·have HB2 := Lib.hid (HB.out.trans (if_pos hg))
      have hg' : ((zerosL (l.drop (bestK l k)) : Nat) : Int) < ((zerosL (l.drop k) : Nat) : Int) := by omega
      generalize zerosL (l.drop (bestK l k)) = z2 at *
      generalize zerosL (l.drop k) = z1 at *
      generalize bestK l k = b at *
      have HK1 := Lib.hid hk1
      have HK2 := Lib.hid hk2
      clear HB hk1 hk2 hg
      have tok1 : True := trivial
      go_wp2_with (first
       | (have _t := tok1; go_at_call 162; refine (HK1.out).mono ?_; rintro e w6 ⟨rfl, rfl⟩; clear tok1)
       | (go_at_call 162; refine (HK2.out).mono ?_; rintro e w6 ⟨rfl, rfl⟩))
      go_round
      case rel => exact ⟨k + 1, by omega, by go_num, by rw [HB2.out]⟩
      case measure => simp [intOf]; omega
     ·have HB2 := Lib.hid (HB.out.trans (if_neg hg))
      have hg' : ((zerosL (l.drop k) : Nat) : Int) ≤ ((zerosL (l.drop (bestK l k)) : Nat) : Int) := by omega
      generalize zerosL (l.drop (bestK l k)) = z2 at *
      generalize zerosL (l.drop k) = z1 at *
      generalize bestK l k = b at *
      have HK1 := Lib.hid hk1
      have HK2 := Lib.hid hk2
      clear HB hk1 hk2 hg
      have tok1 : True := trivial
      go_wp2_with (first
       | (have _t := tok1; go_at_call 162; refine (HK1.out).mono ?_; rintro e w6 ⟨rfl, rfl⟩; clear tok1)
       | (go_at_call 162; refine (HK2.out).mono ?_; rintro e w6 ⟨rfl, rfl⟩))
      go_round
      case rel => exact ⟨k + 1, by omega, by go_num, by rw [HB2.out]⟩
      case measure => simp [intOf]; omega
    ·obtain rfl : k = 8 := by omega
     have hbk := bestK_le l 8
     have hzb := zerosL_le (l.drop (bestK l 8))
     rw [List.length_drop, hL8] at hzb
     have hk2 := Lib.hid (hzr.out (bestK l 8) hbk _ hsl)
     have hjw := Lib.hid (fun w' (hb : Below wr.heap.size wr w') => by have := rjoin_any l hL.out (by omega) A c w' (hsl.later (Nat.le_refl _) hb); rw [hL8] at this; exact this)
     have hT2 := Lib.hid (show textA a = if zerosL (l.drop (bestK l 8)) < 2 then joinN l else joinN (l.take (bestK l 8)) ++ [58, 58] ++ joinN (l.drop (bestK l 8 + zerosL (l.drop (bestK l 8)))) by
      have hbe : bestL l = bestK l 8 := by show bestK l l.length = _; rw [hL8]
      rw [HT.out]
      show (if zerosL (l.drop (bestL l)) < 2 then joinN l else joinN (l.take (bestL l)) ++ 58 :: 58 :: joinN (l.drop (bestL l + zerosL (l.drop (bestL l))))) = _
      rw [hbe]
      simp)
     by_cases hz : zerosL (l.drop (bestK l 8)) < 2
     ·have HT3 := Lib.hid (hT2.out.trans (if_pos hz))
      have hz' : ((zerosL (l.drop (bestK l 8)) : Nat) : Int) < 2 := by omega
      generalize zerosL (l.drop (bestK l 8)) = n at *
      generalize bestK l 8 = b at *
      clear hz hT2 hlt HT
      go_wp2_with (first
       | (go_at_call 162; refine (hk2.out).mono ?_; rintro e w6 ⟨rfl, rfl⟩)
       | (go_at_call 163; refine (hjw.out _ (Below.refl _ _)).mono ?_; rintro e w7 ⟨rfl, hb7⟩))
      go_ret
      exact ⟨by rw [HT3.out]; rfl, hbw.trans (hb7.mono hbw.size)⟩
     ·have HT3 := Lib.hid (hT2.out.trans (if_neg hz))
      have hz' : (2 : Int) ≤ ((zerosL (l.drop (bestK l 8)) : Nat) : Int) := by omega
      generalize zerosL (l.drop (bestK l 8)) = n at *
      generalize bestK l 8 = b at *
      clear hz hT2 hlt HT
      obtain ⟨m, hm⟩ : ∃ m, m = b + n := ⟨_, rfl⟩
      rw [← hm] at HT3
      have hw9 : IntKind.i64.wrap ((b : Int) + (n : Int)) = (m : Int) := by rw [IntKind.wrap_i64]; omega
      obtain ⟨⟨A1, c1, hr1, hs1⟩, -⟩ := cut_ints A c l _ hsl b (by omega)
      obtain ⟨-, ⟨A2, c2, hr2, hs2⟩⟩ := cut_ints A c l _ hsl m (by omega)
      rw [hL8] at hr1 hr2
      have hj1 := Lib.hid (fun w' (hb : Below wr.heap.size wr w') => by have := rjoin_any (l.take b) (fun q hq => hL.out q (List.mem_of_mem_take hq)) (by rw [List.length_take]; omega) A1 c1 w' (hs1.later (Nat.le_refl _) hb); rw [List.length_take, hL8, Nat.min_eq_left (by omega)] at this; exact this)
      have hj2 := Lib.hid (fun w' (hb : Below wr.heap.size wr w') => by have := rjoin_any (l.drop m) (fun q hq => hL.out q (List.mem_of_mem_drop hq)) (by rw [List.length_drop]; omega) A2 c2 w' (hs2.later (Nat.le_refl _) hb); rw [List.length_drop, hL8] at this; exact this)
      have hlj1 := joinN_len (l.take b) (fun q hq => hL.out q (List.mem_of_mem_take hq))
      have hlj2 := joinN_len (l.drop m) (fun q hq => hL.out q (List.mem_of_mem_drop hq))
      rw [List.length_take, hL8] at hlj1
      rw [List.length_drop, hL8] at hlj2
      generalize joinN (l.take b) = J1 at *
      generalize joinN (l.drop m) = J2 at *
      have hs1 : (bstr J1).size = J1.length := size_bstr _
      have hs2 : (bstr J2).size = J2.length := size_bstr _
      go_wp2_with (go_at_call 162; refine (hk2.out).mono ?_; rintro e w6 ⟨rfl, rfl⟩)
      clear hsl hL hzr hk2 hjw hm
      refine wp_region_noPanic ?_
      refine wp_region_held_drew (S := fun w' => Below wr.heap.size wr w') (by kernel_rfl) ((Below.refl _ _).drew) (fun hHeld => ?_)
      have hB := hHeld
      refine rtake 0 _ (some 84) _ rfl rfl (by kernel_rfl) (by kernel_rfl) (by kernel_rfl) (fun _ _ _ h => h) (by rfl) hHeld (by intro w hS; go_simp; try with_reducible rfl) ?_
      try (first | (rw [put_some]; dsimp only [List.set]) | rw [put_none])
      refine rtake 1 _ (some 85) _ rfl rfl (by kernel_rfl) (by kernel_rfl) (by kernel_rfl) (fun _ _ _ h => h) (by rfl) hHeld (by intro w hS; go_simp; try with_reducible rfl) ?_
      try (first | (rw [put_some]; dsimp only [List.set]) | rw [put_none])
      refine rtake 2 _ (some 86) _ rfl rfl (by kernel_rfl) (by kernel_rfl) (by kernel_rfl) (fun _ _ _ h => h) (by rfl) hHeld (by intro w hS; go_simp; try with_reducible rfl) ?_
      try (first | (rw [put_some]; dsimp only [List.set]) | rw [put_none])
      refine rtake 5 _ (some 89) _ rfl rfl (by kernel_rfl) (by kernel_rfl) (by kernel_rfl) (fun _ _ _ h => h) (by rfl) hHeld (by intro w hS; go_simp; try with_reducible rfl) ?_
      try (first | (rw [put_some]; dsimp only [List.set]) | rw [put_none])
      refine rtake 6 _ (some 90) _ rfl rfl (by kernel_rfl) (by kernel_rfl) (by kernel_rfl) (fun _ _ _ h => h) (by rfl) hHeld (by intro w hS; go_simp; try with_reducible rfl) ?_
      try (first | (rw [put_some]; dsimp only [List.set]) | rw [put_none])
      refine rtake 7 _ (some 91) _ rfl rfl (by kernel_rfl) (by kernel_rfl) (by kernel_rfl) (fun _ _ _ h => h) (by rfl) hHeld (by intro w hS; go_simp; try with_reducible rfl) ?_
      try (first | (rw [put_some]; dsimp only [List.set]) | rw [put_none])
      refine rtake 8 _ (some 92) _ rfl rfl (by kernel_rfl) (by kernel_rfl) (by kernel_rfl) (fun _ _ _ h => h) (by rfl) hHeld (by intro w hS; go_simp; try with_reducible rfl) ?_
      try (first | (rw [put_some]; dsimp only [List.set]) | rw [put_none])
      refine rtake 9 _ (some 93) _ rfl rfl (by kernel_rfl) (by kernel_rfl) (by kernel_rfl) (fun _ _ _ h => h) (by rfl) hHeld (by intro w hS; go_simp; try with_reducible rfl) ?_
      try (first | (rw [put_some]; dsimp only [List.set]) | rw [put_none])
      refine wpAnyH_ready (rs := [3]) (by kernel_rfl) (by simp) (AllReadyH.cons (o := _) rfl (fun K hK => ?_) AllReadyH.nil)
      go_simp
      refine (hj1.out _ hB).mono ?_; rintro e wwr3 ⟨rfl, hqwr3⟩
      try go_wp2_with fail
      refine hK.out _ _ (hHeld.trans (hqwr3.mono hHeld.size)) (fun hHeld' => ?_)
      clear hK K
      try (first | (rw [put_some]; dsimp only [List.set]) | rw [put_none])
      have hB := below_step hB hqwr3
      have hB3 : Below wwr3.heap.size wwr3 wwr3 := Below.refl _ _
      refine wpAnyH_narrow (S' := fun w' => Below wwr3.heap.size wwr3 w') (fun _ h => (hHeld.trans (hqwr3.mono hHeld.size)).trans (h.mono (hHeld.trans (hqwr3.mono hHeld.size)).size)) _ _ _ _ ?_
      clear hHeld
      have hHeld : Below wwr3.heap.size wwr3 wwr3 := Below.refl _ _
      refine rtake 4 _ (some 88) _ rfl rfl (by kernel_rfl) (by kernel_rfl) (by kernel_rfl) (fun _ _ _ h => h) (by rfl) hHeld (by intro w hS; go_simp; rw [if_neg (by (try simp only [ByteArray.size_append, hs1, hs2]); (try simp only [show ByteArray.size { data := #[58, 58] } = 2 from rfl]); omega)]) ?_
      try (first | (rw [put_some]; dsimp only [List.set]) | rw [put_none])
      refine wpAnyH_ready (rs := [10]) (by kernel_rfl) (by simp) (AllReadyH.cons (o := _) rfl (fun K hK => ?_) AllReadyH.nil)
      go_simp
      refine (hj2.out _ hB).mono ?_; rintro e wwr10 ⟨rfl, hqwr10⟩
      try go_wp2_with fail
      refine hK.out _ _ (hHeld.trans (hqwr10.mono hHeld.size)) (fun hHeld' => ?_)
      clear hK K
      try (first | (rw [put_some]; dsimp only [List.set]) | rw [put_none])
      have hB := below_step hB hqwr10
      have hB3 := below_step hB3 hqwr10
      have hB10 : Below wwr10.heap.size wwr10 wwr10 := Below.refl _ _
      refine wpAnyH_narrow (S' := fun w' => Below wwr10.heap.size wwr10 w') (fun _ h => (hHeld.trans (hqwr10.mono hHeld.size)).trans (h.mono (hHeld.trans (hqwr10.mono hHeld.size)).size)) _ _ _ _ ?_
      clear hHeld
      have hHeld : Below wwr10.heap.size wwr10 wwr10 := Below.refl _ _
      refine rtake 11 _ (some 95) _ rfl rfl (by kernel_rfl) (by kernel_rfl) (by kernel_rfl) (fun _ _ _ h => h) (by rfl) hHeld (by intro w hS; go_simp; rw [if_neg (by (try simp only [ByteArray.size_append, hs1, hs2]); (try simp only [show ByteArray.size { data := #[58, 58] } = 2 from rfl]); omega)]) ?_
      try (first | (rw [put_some]; dsimp only [List.set]) | rw [put_none])
      refine rtake 12 _ (some 2) _ rfl rfl (by kernel_rfl) (by kernel_rfl) (by kernel_rfl) (fun _ _ _ h => h) (by rfl) hHeld (by intro w hS; go_simp; try with_reducible rfl) ?_
      try (first | (rw [put_some]; dsimp only [List.set]) | rw [put_none])
      refine wpAnyH_done (by kernel_rfl) ?_ _
      refine NoPanic.normal ?_
      have hBe := hbw.trans (hB.mono hbw.size)
      clear hHeld
      go_wp2
      go_ret
      exact ⟨by rw [HT3.out]; simp only [← bstr_cat12]; rfl, hBe⟩
theorem rtextA_any (a : Adr) (h : a.Ok) (w : World) :
  Calls Tryz.prog 123 #[.agg (adrV a).toArray] w fun e w' => e = .returned (.string (bstr (textA a))) ∧ Below w.heap.size w w' := by
 cases h6 : a.v6 with
 | true => exact rtext_six a h h6 w
 | false =>
  cases hc : checkA a with
  | true => exact rtext_four a h hc h6 w
  | false => exact rtext_bad a h hc w
def digI (b : Nat) (c : UInt8) : Int := (List.range b).foldl (fun d j => if hexD j = c then (j : Int) else d) (-1)
theorem digI_succ (b : Nat) (c : UInt8) : digI (b + 1) c = if hexD b = c then (b : Int) else digI b c := by
 unfold digI
 rw [List.range_succ, List.foldl_append]; rfl
theorem digI_bd (b : Nat) (c : UInt8) : -1 ≤ digI b c ∧ digI b c < b := by
 induction b with
 | zero => exact ⟨by show (-1 : Int) ≤ -1; omega, by show (-1 : Int) < _; omega⟩
 | succ b ih => rw [digI_succ]; split <;> omega
theorem digI_hex (b : Nat) (c : UInt8) (h : 0 ≤ digI b c) : hexD (digI b c).toNat = c := by
 induction b with
 | zero => exact absurd h (by show ¬ (0 : Int) ≤ -1; omega)
 | succ b ih =>
  rw [digI_succ] at h ⊢
  split
  ·rename_i e; simpa using e
  ·rename_i e; rw [if_neg e] at h; exact ih h
def foldV (b : Nat) : Nat → List UInt8 → Option Nat
 | n, [] => some n
 | n, c :: s => if digI b c < 0 then none else foldV b (n * b + (digI b c).toNat) s
def optI : Option Nat → Int
 | none => -1
 | some n => n
def valueL (b most : Nat) (s : List UInt8) : Option Nat :=
 if s.length = 0 ∨ most < s.length then none
 else match foldV b 0 s with
  | none => none
  | some n => if numL b n = s then some n else none
theorem foldV_at (b n k : Nat) (s : List UInt8) (h : k < s.length) : foldV b n (s.drop k) = if digI b (s.getD k 0) < 0 then none else foldV b (n * b + (digI b (s.getD k 0)).toNat) (s.drop (k + 1)) := by
 rw [List.drop_eq_getElem_cons h, foldV, List.getD_eq_getElem?_getD, List.getElem?_eq_getElem h]; rfl
theorem hexD_inj : ∀ i j : Nat, i < 16 → j < 16 → hexD i = hexD j → i = j := by
 have h : ∀ i j : Fin 16, hexD i.1 = hexD j.1 → i = j := by decide
 intro i j hi hj he
 exact congrArg Fin.val (h ⟨i, hi⟩ ⟨j, hj⟩ he)
theorem hexD_sign : ∀ i : Nat, i < 16 → hexD i ≠ 46 ∧ hexD i ≠ 58 := by
 have h : ∀ i : Fin 16, hexD i.1 ≠ 46 ∧ hexD i.1 ≠ 58 := by decide
 intro i hi
 exact h ⟨i, hi⟩
theorem digI_hexD (b d : Nat) (hb : b ≤ 16) (hd : d < b) : digI b (hexD d) = d := by
 induction b with
 | zero => omega
 | succ b ih =>
  rw [digI_succ]
  by_cases h : d = b
  ·rw [if_pos (by rw [h]), h]
  ·rw [if_neg (fun e => h (hexD_inj d b (by omega) (by omega) e.symm)), ih (by omega) (by omega)]
theorem foldV_append (b : Nat) (s t : List UInt8) : ∀ n, foldV b n (s ++ t) = (foldV b n s).bind fun m => foldV b m t := by
 induction s with
 | nil => intro n; rfl
 | cons c s ih =>
  intro n
  rw [List.cons_append, foldV, foldV]
  split
  ·rfl
  ·exact ih _
theorem foldV_one (b n d : Nat) (hb : b ≤ 16) (hd : d < b) : foldV b n [hexD d] = some (n * b + d) := by
 rw [foldV, digI_hexD b d hb hd, if_neg (by omega)]; rfl
theorem foldV_num (b : Nat) (h2 : 2 ≤ b) (hb : b ≤ 16) (n : Nat) : foldV b 0 (numL b n) = some n := by
 induction n using Nat.strongRecOn with
 | _ n ih =>
  by_cases h : n < b
  ·rw [numL_small b n h, foldV_one b 0 n hb h]; simp
  ·rw [numL_great b n h2 (by omega), foldV_append, ih (n / b) (Nat.div_lt_self (by omega) (by omega))]
   show foldV b (n / b) [hexD (n % b)] = _
   rw [foldV_one b _ _ hb (Nat.mod_lt _ (by omega)), Nat.mul_comm, Nat.div_add_mod]
theorem valueL_iff (b most : Nat) (h2 : 2 ≤ b) (hb : b ≤ 16) (p : List UInt8) (n : Nat) : valueL b most p = some n ↔ numL b n = p ∧ p.length ≤ most := by
 unfold valueL
 constructor
 ·intro h
  by_cases hbad : p.length = 0 ∨ most < p.length
  ·rw [if_pos hbad] at h; cases h
  ·rw [if_neg hbad] at h
   cases hf : foldV b 0 p with
   | none => rw [hf] at h; cases h
   | some m =>
    rw [hf] at h
    by_cases he : numL b m = p
    ·simp only [if_pos he] at h
     cases h
     exact ⟨he, by omega⟩
    ·simp only [if_neg he] at h; cases h
 ·rintro ⟨rfl, hl⟩
  have hp := numL_pos b n
  rw [if_neg (by omega), foldV_num b h2 hb]
  simp
theorem numL_sign (b n : Nat) (h2 : 2 ≤ b) (hb : b ≤ 16) : ∀ c ∈ numL b n, c ≠ 46 ∧ c ≠ 58 := by
 induction n using Nat.strongRecOn with
 | _ n ih =>
  by_cases h : n < b
  ·rw [numL_small b n h]
   intro c hc
   rw [List.mem_singleton.1 hc]
   exact hexD_sign n (by omega)
  ·rw [numL_great b n h2 (by omega)]
   intro c hc
   rcases List.mem_append.1 hc with h1 | h1
   ·exact ih (n / b) (Nat.div_lt_self (by omega) (by omega)) c h1
   ·rw [List.mem_singleton.1 h1]
    exact hexD_sign _ (Nat.lt_of_lt_of_le (Nat.mod_lt _ (by omega)) hb)
theorem numL_inj (b m n : Nat) (h2 : 2 ≤ b) (hb : b ≤ 16) (h : numL b m = numL b n) : m = n := by
 have h1 := foldV_num b h2 hb m
 rw [h, foldV_num b h2 hb n] at h1
 exact (Option.some.inj h1).symm
set_option maxHeartbeats 2000000 in
theorem rvalue10_any (s : List UInt8) (most : Nat) (hm : most ≤ 4) (w : World) :
  Calls Tryz.prog 160 #[.string (bstr s), .int .i64 10, .int .i64 most] w fun e w' => e = .returned (.int .i64 (optI (valueL 10 most s))) ∧ Below w.heap.size w w' := by
 have hz := size_bstr s
 by_cases hbad : s.length = 0 ∨ most < s.length
 ·have HV := Lib.hid (show valueL 10 most s = none by unfold valueL; rw [if_pos hbad])
  by_cases h0 : s.length = 0
  ·have h0' : ((s.length : Nat) : Int) = 0 := by omega
   go_enter Tryz.func160, Tryz.ntmps160
   go_wp2
   go_ret
   exact ⟨by rw [HV.out]; rfl, Below.refl _ _⟩
  ·have h1' : 0 < s.length := by omega
   have h2' : (most : Int) < (s.length : Int) := by omega
   clear hbad
   go_enter Tryz.func160, Tryz.ntmps160
   go_wp2
   go_ret
   exact ⟨by rw [HV.out]; rfl, Below.refl _ _⟩
 ·have HV := Lib.hid (show valueL 10 most s = (match foldV 10 0 s with | none => none | some n => if numL 10 n = s then some n else none) by unfold valueL; rw [if_neg hbad] <;> rfl)
  have h0 : 0 < s.length := by omega
  have h1 : s.length ≤ most := by omega
  have h1' : (s.length : Int) ≤ (most : Int) := by omega
  have h0' : (((s.length : Nat) : Int) == 0) = false := by rw [beq_eq_false_iff_ne]; omega
  clear hbad
  go_enter Tryz.func160, Tryz.ntmps160
  go_wp2
  go_loopw [7, 8] (fun n i wr => ∃ k m : Nat, k ≤ s.length ∧ i = .int .i64 k ∧ n = .int .i64 m ∧ m < 10 ^ k ∧ foldV 10 m (s.drop k) = foldV 10 0 s ∧ Below w.heap.size w wr) (fun _ i _ => s.length - (intOf i).toNat)
  case atStart => exact ⟨0, 0, by omega, rfl, rfl, by decide, rfl, Below.refl _ _⟩
  case round =>
   obtain ⟨k, m, hk, rfl, rfl, hmk, hf, hbr⟩ := hrel
   by_cases hlt : k < s.length
   ·have hlt' : (k : Int) < (s.length : Int) := by omega
    have hix := index_bstr s k hlt
    have HF := Lib.hid hf
    have HG := Lib.hid (foldV_at 10 m k s hlt)
    have hP : 10 ^ k ≤ 10 ^ 4 := Nat.pow_le_pow_right (by omega) (by omega)
    have HP := Lib.hid (show 10 ^ (k + 1) = 10 ^ k * 10 from Nat.pow_succ ..)
    have hbd := digI_bd 10 (s.getD k 0)
    generalize s.getD k 0 = c at *
    clear hf
    obtain ⟨wo, rfl⟩ : ∃ wo : World, wo = wr := ⟨_, rfl⟩
    go_wp2
    go_loopw [9, 10] (fun d j wr => ∃ q : Nat, q ≤ 10 ∧ j = .int .i64 q ∧ d = .int .i64 (digI q c) ∧ Below w.heap.size w wr) (fun _ j _ => 10 - (intOf j).toNat)
    case atStart => exact ⟨0, by omega, rfl, rfl, hbr⟩
    case round =>
     clear hbr
     obtain ⟨q, hq, rfl, rfl, hbq⟩ := hrel
     by_cases hql : q < 10
     ·have hql' : (q : Int) < 10 := by omega
      have hd := digit_at64 q (by omega)
      have HD := Lib.hid (digI_succ q c)
      by_cases he : hexD q = c
      ·have HD2 := Lib.hid (HD.out.trans (if_pos he))
       rw [he] at hd
       clear he HD
       go_wp2
       refine wp_region_noPanic ?_
       refine wp_region_held_drew (S := fun w' => Below w.heap.size w w') (by kernel_rfl) (hbq.drew) (fun hHeld => ?_)
       refine rtake 0 _ (some 31) _ rfl rfl (by kernel_rfl) (by kernel_rfl) (by kernel_rfl) (fun _ _ _ h => h) (by rfl) hHeld (by intro w hS; go_simp; try with_reducible rfl) ?_
       try (first | (rw [put_some]; dsimp only [List.set]) | rw [put_none])
       refine rtake 1 _ (some 32) _ rfl rfl (by kernel_rfl) (by kernel_rfl) (by kernel_rfl) (fun _ _ _ h => h) (by rfl) hHeld (by intro w hS; go_simp; try with_reducible rfl) ?_
       try (first | (rw [put_some]; dsimp only [List.set]) | rw [put_none])
       refine rtake 2 _ (some 33) _ rfl rfl (by kernel_rfl) (by kernel_rfl) (by kernel_rfl) (fun _ _ _ h => h) (by rfl) hHeld (by intro w hS; go_simp; try with_reducible rfl) ?_
       try (first | (rw [put_some]; dsimp only [List.set]) | rw [put_none])
       refine rtake 3 _ (some 34) _ rfl rfl (by kernel_rfl) (by kernel_rfl) (by kernel_rfl) (fun _ _ _ h => h) (by rfl) hHeld (by intro w hS; go_simp; try with_reducible rfl) ?_
       try (first | (rw [put_some]; dsimp only [List.set]) | rw [put_none])
       refine rtake 4 _ (some 35) _ rfl rfl (by kernel_rfl) (by kernel_rfl) (by kernel_rfl) (fun _ _ _ h => h) (by rfl) hHeld (by intro w hS; go_simp; try with_reducible rfl) ?_
       try (first | (rw [put_some]; dsimp only [List.set]) | rw [put_none])
       refine rtake 5 _ (some 36) _ rfl rfl (by kernel_rfl) (by kernel_rfl) (by kernel_rfl) (fun _ _ _ h => h) (by rfl) hHeld (by intro w hS; go_simp; try with_reducible rfl) ?_
       try (first | (rw [put_some]; dsimp only [List.set]) | rw [put_none])
       refine wpAnyH_done (by kernel_rfl) ?_ _
       refine NoPanic.normal ?_
       go_wp2
       go_roundw
       case rel => exact ⟨q + 1, by omega, by go_num, by rw [HD2.out], hbq.drew⟩
       case measure => simp [intOf]; omega
      ·have HD2 := Lib.hid (HD.out.trans (if_neg he))
       have hb : (((hexD q).toNat : Int) == (c.toNat : Int)) = false := by
        rw [beq_eq_false_iff_ne]
        intro h
        exact he (UInt8.toNat_inj.1 (by omega))
       generalize hexD q = x at *
       clear he HD
       go_wp2
       refine wp_region_noPanic ?_
       refine wp_region_held_drew (S := fun w' => Below w.heap.size w w') (by kernel_rfl) (hbq.drew) (fun hHeld => ?_)
       refine rtake 0 _ (some 31) _ rfl rfl (by kernel_rfl) (by kernel_rfl) (by kernel_rfl) (fun _ _ _ h => h) (by rfl) hHeld (by intro w hS; go_simp; try with_reducible rfl) ?_
       try (first | (rw [put_some]; dsimp only [List.set]) | rw [put_none])
       refine rtake 1 _ (some 32) _ rfl rfl (by kernel_rfl) (by kernel_rfl) (by kernel_rfl) (fun _ _ _ h => h) (by rfl) hHeld (by intro w hS; go_simp; try with_reducible rfl) ?_
       try (first | (rw [put_some]; dsimp only [List.set]) | rw [put_none])
       refine rtake 2 _ (some 33) _ rfl rfl (by kernel_rfl) (by kernel_rfl) (by kernel_rfl) (fun _ _ _ h => h) (by rfl) hHeld (by intro w hS; go_simp; try with_reducible rfl) ?_
       try (first | (rw [put_some]; dsimp only [List.set]) | rw [put_none])
       refine rtake 3 _ (some 34) _ rfl rfl (by kernel_rfl) (by kernel_rfl) (by kernel_rfl) (fun _ _ _ h => h) (by rfl) hHeld (by intro w hS; go_simp; try with_reducible rfl) ?_
       try (first | (rw [put_some]; dsimp only [List.set]) | rw [put_none])
       refine rtake 4 _ (some 35) _ rfl rfl (by kernel_rfl) (by kernel_rfl) (by kernel_rfl) (fun _ _ _ h => h) (by rfl) hHeld (by intro w hS; go_simp; try with_reducible rfl) ?_
       try (first | (rw [put_some]; dsimp only [List.set]) | rw [put_none])
       refine rtake 5 _ (some 36) _ rfl rfl (by kernel_rfl) (by kernel_rfl) (by kernel_rfl) (fun _ _ _ h => h) (by rfl) hHeld (by intro w hS; go_simp; try with_reducible rfl) ?_
       try (first | (rw [put_some]; dsimp only [List.set]) | rw [put_none])
       refine wpAnyH_done (by kernel_rfl) ?_ _
       refine NoPanic.normal ?_
       go_wp2
       go_roundw
       case rel => exact ⟨q + 1, by omega, by go_num, by rw [HD2.out], hbq.drew⟩
       case measure => simp [intOf]; omega
     ·obtain rfl : q = 10 := by omega
      by_cases hneg : digI 10 c < 0
      ·have HV2 := Lib.hid (show valueL 10 most s = none by rw [HV.out, ← HF.out, HG.out, if_pos hneg])
       clear HV HF HG
       go_wp2
       go_ret
       exact ⟨by rw [HV2.out]; rfl, hbq⟩
      ·have HG2 := Lib.hid (HF.out.symm.trans (HG.out.trans (if_neg hneg)))
       have hn0 : 0 ≤ digI 10 c := by omega
       have hdc : ((digI 10 c).toNat : Int) = digI 10 c := by omega
       generalize digI 10 c = d at *
       have hw1 : IntKind.i64.wrap ((m : Int) * 10) = (m : Int) * 10 := by rw [IntKind.wrap_i64]; omega
       have hw2 : IntKind.i64.wrap ((m : Int) * 10 + d) = ((m * 10 + d.toNat : Nat) : Int) := by rw [IntKind.wrap_i64]; omega
       have hm2 : m * 10 + d.toNat < 10 ^ (k + 1) := by rw [HP.out]; omega
       generalize m * 10 + d.toNat = m2 at *
       clear HF HG hneg hdc
       go_wp2
       go_roundw
       case rel => exact ⟨k + 1, m2, by omega, by go_num, rfl, hm2, HG2.out.symm, hbq⟩
       case measure => simp [intOf]; omega
   ·obtain rfl : k = s.length := by omega
    have HV2 := Lib.hid (show valueL 10 most s = if numL 10 m = s then some m else none by
     rw [HV.out, ← hf, List.drop_length]; rfl)
    have hmm : m < 10 ^ 4 := Nat.lt_of_lt_of_le hmk (Nat.pow_le_pow_right (by omega) (by omega))
    have hn := Lib.hid (fun w' => rnum10_any m m w' (Nat.le_refl _) (by omega))
    clear HV hf
    by_cases he : numL 10 m = s
    ·have HV3 := Lib.hid (HV2.out.trans (if_pos he))
     rw [he] at hn
     clear HV2 he
     go_wp2_with (go_at_call 161; refine (hn.out _).mono ?_; rintro e w1 ⟨rfl, hb1⟩)
     go_ret
     exact ⟨by rw [HV3.out]; rfl, hbr.trans (hb1.mono hbr.size)⟩
    ·have HV3 := Lib.hid (HV2.out.trans (if_neg he))
     have hne : ((bstr (numL 10 m)).toList == (bstr s).toList) = false := by rw [bstr_beq]; exact decide_eq_false he
     generalize numL 10 m = X at *
     clear HV2 he
     go_wp2_with (go_at_call 161; refine (hn.out _).mono ?_; rintro e w1 ⟨rfl, hb1⟩)
     go_ret
     exact ⟨by rw [HV3.out]; rfl, hbr.trans (hb1.mono hbr.size)⟩
set_option maxHeartbeats 2000000 in
theorem rvalue16_any (s : List UInt8) (most : Nat) (hm : most ≤ 4) (w : World) :
  Calls Tryz.prog 160 #[.string (bstr s), .int .i64 16, .int .i64 most] w fun e w' => e = .returned (.int .i64 (optI (valueL 16 most s))) ∧ Below w.heap.size w w' := by
 have hz := size_bstr s
 by_cases hbad : s.length = 0 ∨ most < s.length
 ·have HV := Lib.hid (show valueL 16 most s = none by unfold valueL; rw [if_pos hbad])
  by_cases h0 : s.length = 0
  ·have h0' : ((s.length : Nat) : Int) = 0 := by omega
   go_enter Tryz.func160, Tryz.ntmps160
   go_wp2
   go_ret
   exact ⟨by rw [HV.out]; rfl, Below.refl _ _⟩
  ·have h1' : 0 < s.length := by omega
   have h2' : (most : Int) < (s.length : Int) := by omega
   clear hbad
   go_enter Tryz.func160, Tryz.ntmps160
   go_wp2
   go_ret
   exact ⟨by rw [HV.out]; rfl, Below.refl _ _⟩
 ·have HV := Lib.hid (show valueL 16 most s = (match foldV 16 0 s with | none => none | some n => if numL 16 n = s then some n else none) by unfold valueL; rw [if_neg hbad] <;> rfl)
  have h0 : 0 < s.length := by omega
  have h1 : s.length ≤ most := by omega
  have h1' : (s.length : Int) ≤ (most : Int) := by omega
  have h0' : (((s.length : Nat) : Int) == 0) = false := by rw [beq_eq_false_iff_ne]; omega
  clear hbad
  go_enter Tryz.func160, Tryz.ntmps160
  go_wp2
  go_loopw [7, 8] (fun n i wr => ∃ k m : Nat, k ≤ s.length ∧ i = .int .i64 k ∧ n = .int .i64 m ∧ m < 16 ^ k ∧ foldV 16 m (s.drop k) = foldV 16 0 s ∧ Below w.heap.size w wr) (fun _ i _ => s.length - (intOf i).toNat)
  case atStart => exact ⟨0, 0, by omega, rfl, rfl, by decide, rfl, Below.refl _ _⟩
  case round =>
   obtain ⟨k, m, hk, rfl, rfl, hmk, hf, hbr⟩ := hrel
   by_cases hlt : k < s.length
   ·have hlt' : (k : Int) < (s.length : Int) := by omega
    have hix := index_bstr s k hlt
    have HF := Lib.hid hf
    have HG := Lib.hid (foldV_at 16 m k s hlt)
    have hP : 16 ^ k ≤ 16 ^ 4 := Nat.pow_le_pow_right (by omega) (by omega)
    have HP := Lib.hid (show 16 ^ (k + 1) = 16 ^ k * 16 from Nat.pow_succ ..)
    have hbd := digI_bd 16 (s.getD k 0)
    generalize s.getD k 0 = c at *
    clear hf
    obtain ⟨wo, rfl⟩ : ∃ wo : World, wo = wr := ⟨_, rfl⟩
    go_wp2
    go_loopw [9, 10] (fun d j wr => ∃ q : Nat, q ≤ 16 ∧ j = .int .i64 q ∧ d = .int .i64 (digI q c) ∧ Below w.heap.size w wr) (fun _ j _ => 16 - (intOf j).toNat)
    case atStart => exact ⟨0, by omega, rfl, rfl, hbr⟩
    case round =>
     clear hbr
     obtain ⟨q, hq, rfl, rfl, hbq⟩ := hrel
     by_cases hql : q < 16
     ·have hql' : (q : Int) < 16 := by omega
      have hd := digit_at64 q (by omega)
      have HD := Lib.hid (digI_succ q c)
      by_cases he : hexD q = c
      ·have HD2 := Lib.hid (HD.out.trans (if_pos he))
       rw [he] at hd
       clear he HD
       go_wp2
       refine wp_region_noPanic ?_
       refine wp_region_held_drew (S := fun w' => Below w.heap.size w w') (by kernel_rfl) (hbq.drew) (fun hHeld => ?_)
       refine rtake 0 _ (some 31) _ rfl rfl (by kernel_rfl) (by kernel_rfl) (by kernel_rfl) (fun _ _ _ h => h) (by rfl) hHeld (by intro w hS; go_simp; try with_reducible rfl) ?_
       try (first | (rw [put_some]; dsimp only [List.set]) | rw [put_none])
       refine rtake 1 _ (some 32) _ rfl rfl (by kernel_rfl) (by kernel_rfl) (by kernel_rfl) (fun _ _ _ h => h) (by rfl) hHeld (by intro w hS; go_simp; try with_reducible rfl) ?_
       try (first | (rw [put_some]; dsimp only [List.set]) | rw [put_none])
       refine rtake 2 _ (some 33) _ rfl rfl (by kernel_rfl) (by kernel_rfl) (by kernel_rfl) (fun _ _ _ h => h) (by rfl) hHeld (by intro w hS; go_simp; try with_reducible rfl) ?_
       try (first | (rw [put_some]; dsimp only [List.set]) | rw [put_none])
       refine rtake 3 _ (some 34) _ rfl rfl (by kernel_rfl) (by kernel_rfl) (by kernel_rfl) (fun _ _ _ h => h) (by rfl) hHeld (by intro w hS; go_simp; try with_reducible rfl) ?_
       try (first | (rw [put_some]; dsimp only [List.set]) | rw [put_none])
       refine rtake 4 _ (some 35) _ rfl rfl (by kernel_rfl) (by kernel_rfl) (by kernel_rfl) (fun _ _ _ h => h) (by rfl) hHeld (by intro w hS; go_simp; try with_reducible rfl) ?_
       try (first | (rw [put_some]; dsimp only [List.set]) | rw [put_none])
       refine rtake 5 _ (some 36) _ rfl rfl (by kernel_rfl) (by kernel_rfl) (by kernel_rfl) (fun _ _ _ h => h) (by rfl) hHeld (by intro w hS; go_simp; try with_reducible rfl) ?_
       try (first | (rw [put_some]; dsimp only [List.set]) | rw [put_none])
       refine wpAnyH_done (by kernel_rfl) ?_ _
       refine NoPanic.normal ?_
       go_wp2
       go_roundw
       case rel => exact ⟨q + 1, by omega, by go_num, by rw [HD2.out], hbq.drew⟩
       case measure => simp [intOf]; omega
      ·have HD2 := Lib.hid (HD.out.trans (if_neg he))
       have hb : (((hexD q).toNat : Int) == (c.toNat : Int)) = false := by
        rw [beq_eq_false_iff_ne]
        intro h
        exact he (UInt8.toNat_inj.1 (by omega))
       generalize hexD q = x at *
       clear he HD
       go_wp2
       refine wp_region_noPanic ?_
       refine wp_region_held_drew (S := fun w' => Below w.heap.size w w') (by kernel_rfl) (hbq.drew) (fun hHeld => ?_)
       refine rtake 0 _ (some 31) _ rfl rfl (by kernel_rfl) (by kernel_rfl) (by kernel_rfl) (fun _ _ _ h => h) (by rfl) hHeld (by intro w hS; go_simp; try with_reducible rfl) ?_
       try (first | (rw [put_some]; dsimp only [List.set]) | rw [put_none])
       refine rtake 1 _ (some 32) _ rfl rfl (by kernel_rfl) (by kernel_rfl) (by kernel_rfl) (fun _ _ _ h => h) (by rfl) hHeld (by intro w hS; go_simp; try with_reducible rfl) ?_
       try (first | (rw [put_some]; dsimp only [List.set]) | rw [put_none])
       refine rtake 2 _ (some 33) _ rfl rfl (by kernel_rfl) (by kernel_rfl) (by kernel_rfl) (fun _ _ _ h => h) (by rfl) hHeld (by intro w hS; go_simp; try with_reducible rfl) ?_
       try (first | (rw [put_some]; dsimp only [List.set]) | rw [put_none])
       refine rtake 3 _ (some 34) _ rfl rfl (by kernel_rfl) (by kernel_rfl) (by kernel_rfl) (fun _ _ _ h => h) (by rfl) hHeld (by intro w hS; go_simp; try with_reducible rfl) ?_
       try (first | (rw [put_some]; dsimp only [List.set]) | rw [put_none])
       refine rtake 4 _ (some 35) _ rfl rfl (by kernel_rfl) (by kernel_rfl) (by kernel_rfl) (fun _ _ _ h => h) (by rfl) hHeld (by intro w hS; go_simp; try with_reducible rfl) ?_
       try (first | (rw [put_some]; dsimp only [List.set]) | rw [put_none])
       refine rtake 5 _ (some 36) _ rfl rfl (by kernel_rfl) (by kernel_rfl) (by kernel_rfl) (fun _ _ _ h => h) (by rfl) hHeld (by intro w hS; go_simp; try with_reducible rfl) ?_
       try (first | (rw [put_some]; dsimp only [List.set]) | rw [put_none])
       refine wpAnyH_done (by kernel_rfl) ?_ _
       refine NoPanic.normal ?_
       go_wp2
       go_roundw
       case rel => exact ⟨q + 1, by omega, by go_num, by rw [HD2.out], hbq.drew⟩
       case measure => simp [intOf]; omega
     ·obtain rfl : q = 16 := by omega
      by_cases hneg : digI 16 c < 0
      ·have HV2 := Lib.hid (show valueL 16 most s = none by rw [HV.out, ← HF.out, HG.out, if_pos hneg])
       clear HV HF HG
       go_wp2
       go_ret
       exact ⟨by rw [HV2.out]; rfl, hbq⟩
      ·have HG2 := Lib.hid (HF.out.symm.trans (HG.out.trans (if_neg hneg)))
       have hn0 : 0 ≤ digI 16 c := by omega
       have hdc : ((digI 16 c).toNat : Int) = digI 16 c := by omega
       generalize digI 16 c = d at *
       have hw1 : IntKind.i64.wrap ((m : Int) * 16) = (m : Int) * 16 := by rw [IntKind.wrap_i64]; omega
       have hw2 : IntKind.i64.wrap ((m : Int) * 16 + d) = ((m * 16 + d.toNat : Nat) : Int) := by rw [IntKind.wrap_i64]; omega
       have hm2 : m * 16 + d.toNat < 16 ^ (k + 1) := by rw [HP.out]; omega
       generalize m * 16 + d.toNat = m2 at *
       clear HF HG hneg hdc
       go_wp2
       go_roundw
       case rel => exact ⟨k + 1, m2, by omega, by go_num, rfl, hm2, HG2.out.symm, hbq⟩
       case measure => simp [intOf]; omega
   ·obtain rfl : k = s.length := by omega
    have HV2 := Lib.hid (show valueL 16 most s = if numL 16 m = s then some m else none by
     rw [HV.out, ← hf, List.drop_length]; rfl)
    have hmm : m < 16 ^ 4 := Nat.lt_of_lt_of_le hmk (Nat.pow_le_pow_right (by omega) (by omega))
    have hn := Lib.hid (fun w' => rnum16_any m m w' (Nat.le_refl _) (by omega))
    clear HV hf
    by_cases he : numL 16 m = s
    ·have HV3 := Lib.hid (HV2.out.trans (if_pos he))
     rw [he] at hn
     clear HV2 he
     go_wp2_with (go_at_call 161; refine (hn.out _).mono ?_; rintro e w1 ⟨rfl, hb1⟩)
     go_ret
     exact ⟨by rw [HV3.out]; rfl, hbr.trans (hb1.mono hbr.size)⟩
    ·have HV3 := Lib.hid (HV2.out.trans (if_neg he))
     have hne : ((bstr (numL 16 m)).toList == (bstr s).toList) = false := by rw [bstr_beq]; exact decide_eq_false he
     generalize numL 16 m = X at *
     clear HV2 he
     go_wp2_with (go_at_call 161; refine (hn.out _).mono ?_; rintro e w1 ⟨rfl, hb1⟩)
     go_ret
     exact ⟨by rw [HV3.out]; rfl, hbr.trans (hb1.mono hbr.size)⟩
def splitL (x : UInt8) : List UInt8 → List (List UInt8)
 | [] => [[]]
 | c :: s => if c = x then [] :: splitL x s else match splitL x s with
  | [] => [[c]]
  | p :: ps => (c :: p) :: ps
theorem splitL_ne (x : UInt8) (s : List UInt8) : splitL x s ≠ [] := by
 cases s with
 | nil => simp [splitL]
 | cons c s =>
  rw [splitL]
  split
  ·simp
  ·split <;> simp
theorem splitL_hit (x : UInt8) (p t : List UInt8) (h : ∀ c ∈ p, c ≠ x) : splitL x (p ++ x :: t) = p :: splitL x t := by
 induction p with
 | nil => simp [splitL]
 | cons c p ih =>
  rw [List.cons_append, splitL, if_neg (h c (List.mem_cons_self ..)), ih (fun q hq => h q (List.mem_cons_of_mem _ hq))]
theorem splitL_end (x : UInt8) (p : List UInt8) (h : ∀ c ∈ p, c ≠ x) : splitL x p = [p] := by
 induction p with
 | nil => rfl
 | cons c p ih => rw [splitL, if_neg (h c (List.mem_cons_self ..)), ih (fun q hq => h q (List.mem_cons_of_mem _ hq))]
theorem extract_bstr12 (l : List UInt8) (i j : Nat) : (bstr l).extract i j = bstr ((l.drop i).take (j - i)) := ByteArray.extract_mk l i j
theorem drop_piece (s : List UInt8) (f i : Nat) (hf : f ≤ i) (hi : i < s.length) : s.drop f = (s.drop f).take (i - f) ++ s.getD i 0 :: s.drop (i + 1) := by
 have e : s.drop f = (s.drop f).take (i - f) ++ (s.drop f).drop (i - f) := (List.take_append_drop ..).symm
 rw [List.drop_drop, show f + (i - f) = i by omega, List.drop_eq_getElem_cons hi] at e
 rw [List.getD_eq_getElem?_getD, List.getElem?_eq_getElem hi]
 exact e
theorem take_piece (s : List UInt8) (f i : Nat) (hf : f ≤ i) (hi : i < s.length) : (s.drop f).take (i + 1 - f) = (s.drop f).take (i - f) ++ [s.getD i 0] := by
 rw [show i + 1 - f = (i - f) + 1 by omega, List.take_add_one, List.getElem?_drop, show f + (i - f) = i by omega, List.getD_eq_getElem?_getD, List.getElem?_eq_getElem hi]; rfl
theorem splitL_len (x : UInt8) (s : List UInt8) : (splitL x s).length ≤ s.length + 1 := by
 induction s with
 | nil => exact Nat.le_refl _
 | cons c s ih =>
  rw [splitL]
  split
  ·simp; exact ih
  ·split
   ·simp
   ·rename_i h; rw [h] at ih; simp at ih ⊢; omega
def glueL (x : UInt8) : List (List UInt8) → List UInt8
 | [] => []
 | [p] => p
 | p :: q :: ps => p ++ x :: glueL x (q :: ps)
theorem glueL_cons (x : UInt8) (p : List UInt8) (ps : List (List UInt8)) (h : ps ≠ []) : glueL x (p :: ps) = p ++ x :: glueL x ps := by
 cases ps with
 | nil => exact absurd rfl h
 | cons q ps => rfl
theorem splitL_glue (x : UInt8) (ps : List (List UInt8)) (h : ps ≠ []) (hx : ∀ p ∈ ps, ∀ c ∈ p, c ≠ x) : splitL x (glueL x ps) = ps := by
 induction ps with
 | nil => exact absurd rfl h
 | cons p ps ih =>
  by_cases he : ps = []
  ·subst he
   exact splitL_end x p (hx p (List.mem_cons_self ..))
  ·rw [glueL_cons x p ps he, splitL_hit x p _ (hx p (List.mem_cons_self ..)), ih he (fun q hq => hx q (List.mem_cons_of_mem _ hq))]
theorem glueL_split (x : UInt8) (s : List UInt8) : glueL x (splitL x s) = s := by
 induction s with
 | nil => rfl
 | cons c s ih =>
  rw [splitL]
  split
  ·rename_i h
   rw [glueL_cons x [] _ (splitL_ne x s), ih, h]; rfl
  ·cases hsp : splitL x s with
   | nil => exact absurd hsp (splitL_ne x s)
   | cons p ps =>
    rw [hsp] at ih
    show glueL x ((c :: p) :: ps) = _
    by_cases he : ps = []
    ·subst he
     show c :: p = _
     rw [show p = s from ih]
    ·rw [glueL_cons x _ ps he]
     rw [glueL_cons x _ ps he] at ih
     rw [List.cons_append, ih]
theorem mem_glue (x : UInt8) (ps : List (List UInt8)) (c : UInt8) (h : c ∈ glueL x ps) : c = x ∨ ∃ p ∈ ps, c ∈ p := by
 induction ps with
 | nil => cases h
 | cons p ps ih =>
  by_cases he : ps = []
  ·subst he
   exact .inr ⟨p, List.mem_cons_self .., h⟩
  ·rw [glueL_cons x p ps he] at h
   rcases List.mem_append.1 h with h | h
   ·exact .inr ⟨p, List.mem_cons_self .., h⟩
   ·rcases List.mem_cons.1 h with h | h
    ·exact .inl h
    ·rcases ih h with h | ⟨q, hq, hc⟩
     ·exact .inl h
     ·exact .inr ⟨q, List.mem_cons_of_mem _ hq, hc⟩
theorem splitL_piece (x : UInt8) (s : List UInt8) : ∀ p ∈ splitL x s, p.length ≤ s.length := by
 induction s with
 | nil => intro p hp; rw [splitL] at hp; rw [List.mem_singleton.1 hp]; exact Nat.le_refl _
 | cons c s ih =>
  intro p hp
  rw [splitL] at hp
  split at hp
  ·rcases List.mem_cons.1 hp with rfl | hp
   ·simp
   ·have := ih p hp; rw [List.length_cons]; omega
  ·split at hp
   ·rw [List.mem_singleton.1 hp]; simp
   ·rename_i q qs hq
    rcases List.mem_cons.1 hp with rfl | hp
    ·have := ih q (by rw [hq]; exact List.mem_cons_self ..); rw [List.length_cons, List.length_cons]; omega
    ·have := ih p (by rw [hq]; exact List.mem_cons_of_mem _ hp); rw [List.length_cons]; omega
theorem splitL_cons (x c : UInt8) (s : List UInt8) : splitL x (c :: s) = if c = x then [] :: splitL x s else match splitL x s with
  | [] => [[c]]
  | p :: ps => (c :: p) :: ps := rfl
theorem splitL_app (x : UInt8) (s t : List UInt8) : splitL x (s ++ x :: t) = splitL x s ++ splitL x t := by
 have h1 := glueL_split x s
 induction s with
 | nil => exact splitL_hit x [] t (fun c hc => by cases hc)
 | cons c s ih =>
  rw [List.cons_append, splitL_cons, splitL_cons x c s, ih (glueL_split x s)]
  by_cases hc : c = x
  ·rw [if_pos hc, if_pos hc]; rfl
  ·rw [if_neg hc, if_neg hc]
   cases hs : splitL x s with
   | nil => exact absurd hs (splitL_ne x s)
   | cons p ps => rfl
theorem glueL_app (x : UInt8) (a b : List (List UInt8)) (ha : a ≠ []) (hb : b ≠ []) : glueL x (a ++ b) = glueL x a ++ x :: glueL x b := by
 induction a with
 | nil => exact absurd rfl ha
 | cons p ps ih =>
  by_cases hp : ps = []
  ·subst hp
   rw [List.cons_append, List.nil_append, glueL_cons x p b hb]; rfl
  ·rw [List.cons_append, glueL_cons x p _ (by simp [hp]), ih hp, glueL_cons x p ps hp, List.append_assoc]; rfl
end Go.Proofs.YtjieebmcbpdeiaaGreatDoor
