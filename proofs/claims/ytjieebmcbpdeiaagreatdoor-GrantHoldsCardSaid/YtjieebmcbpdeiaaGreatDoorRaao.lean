import Derived.Test.YtjieebmcbpdeiaaGreatDoorRaan
import Derived.Test.YtjieebmcbpdeiaaGreatDoorRaag
namespace Go.Proofs.YtjieebmcbpdeiaaGreatDoor
set_option maxRecDepth 100000
open Go Go.RowKit
set_option maxHeartbeats 400000 in
theorem rparse17_any (s : List UInt8) (hs : s.length ≤ 4000) (w : World) : Calls Tryz.prog 24 #[.string (bstr s)] w (GavePrd (parseP s) w) := by
 have hzs := size_bstr s
 have HE := Lib.hid (fun t => bstr_beq t s)
 obtain ⟨Z, hZ⟩ : ∃ Z, Z = prdV zeroP none 0 := ⟨_, rfl⟩
 have hZl0 : Z.length = 23 := by rw [hZ]; exact length_prdV _ zeroP_ok.net.a _ _
 have hzZ := Lib.hid (show (Tryz.prog.info? 31).map (·.size) = some Z.toArray.size by rw [List.size_toArray, hZl0]; exact size_prd)
 have hZ1 := Lib.hid (show Z.toArray.all (·.oneCell') = true by rw [hZ]; exact prdV_one _ _ _)
 have hZe := Lib.hid (hZ.trans prd_zero)
 have hZd := Lib.hid (show Z = prdV zeroP none 0 from hZ)
 have hZl := Lib.hid hZl0
 obtain ⟨w1, hw1⟩ : ∃ w1, w1 = w.alloc (.cells Z.toArray 31) := ⟨_, rfl⟩
 have q1 : Row w1 w.heap.size 31 Z := by rw [hw1]; exact Row.new w _ _
 have hb1 : Below w.heap.size w w1 := by rw [hw1]; exact (Below.refl _ w).alloc (Nat.le_refl _) _
 have HW := Lib.hid (hw1.trans (show w.alloc (.cells Z.toArray 31) = w.alloc (.cells [Value.int .i64 0, .int .u64 0, .slice none 0 0, .string { data := #[] }, .bool false, .int .u8 0, .int .u8 0, .int .u8 0, .int .u8 0, .int .u8 0, .int .u8 0, .int .u8 0, .int .u8 0, .int .u8 0, .int .u8 0, .int .u8 0, .int .u8 0, .int .u8 0, .int .u8 0, .int .u8 0, .int .u8 0, .int .i64 0, .float .f64 0].toArray 31) by rw [hZe.out]))
 clear hw1 hZ hZl0
 have HNO := Lib.hid (fun h => blankL_none s h)
 have HAT := Lib.hid (fun k hk h hn => blankL_at s k hk h hn)
 have HIX := Lib.hid (fun k (hk : k < s.length) w' => index_bstr s k hk w')
 have HCUT := Lib.hid (fun k => (show (bstr s).extract (k + 1) s.length = bstr (s.drop (k + 1)) by rw [extract_bstr12, List.take_of_length_le (by rw [List.length_drop]; omega)]))
 have HPL := Lib.hid (fun h => parse_long s h)
 have HPW := Lib.hid (fun h1 h2 => parse_whole s h1 h2)
 have HPH := Lib.hid (fun k j h1 h2 h3 h4 h5 => parse_hit s k j h1 h2 h3 h4 h5)
 have HPM := Lib.hid (fun k h1 h2 h3 => parse_miss s k h1 h2 h3)
 obtain ⟨S, hS⟩ : ∃ S, S = bstr s := ⟨_, rfl⟩
 rw [← hS] at hzs HIX HCUT HE ⊢
 clear hS
 by_cases hlong : 512 < s.length
 ·have hl' : (512 : Int) < (s.length : Int) := by omega
  go_enter Tryz.func24, Tryz.ntmps24
  have HX := Lib.hid (HPL.out hlong)
  have Q2 := Lib.hid (show w1.heap[w.heap.size]? = some (.cells Z.toArray 31 (0, 0)) from q1)
  go_wp2_with (have _t := Q2; rw [← HW.out]; refine wpList_store_row rfl 31 (.tmp 2) (.tmp 19) rfl w.heap.size Z.toArray rfl (by rw [hZe.out]; rfl) 31 Z.toArray Q2.out hzZ.out rfl hZ1.out ?_; refine Hid.out ?_)
  refine Lib.hid ?_
  generalize hw8 : World.setRow _ _ _ = w8
  obtain ⟨r8, hg8⟩ := row_set (show Row w1 w.heap.size 31 Z from Q2.out) hw8
  have hb8 := hb1.grown hg8 hb1.size (fun k h => by cases h; exact Nat.le_refl _)
  have R8 := Lib.hid (show w8.heap[w.heap.size]? = some (.cells Z.toArray 31 (0, 0)) from r8)
  clear hw8 r8 hg8 Q2
  go_wp2_with fail
  exact ⟨rfl, _, results_row_tmp rfl _ _ w.heap.size 31 Z.toArray (0, 0) _ rfl R8.out Tryz.underlying31 rfl hzZ.out _ rfl, none, 0, by rw [HX.out, hZd.out]; rfl, by rw [HX.out]; exact zero_at _, hb8⟩
 ·have hl' : (s.length : Int) ≤ 512 := by omega
  have hl2 : s.length ≤ 512 := by omega
  clear hlong
  go_enter Tryz.func24, Tryz.ntmps24
  go_wp2
  rw [← HW.out]
  clear HW
  go_loopw [4] (fun i wr => ∃ k : Nat, k ≤ s.length ∧ i = .int .i64 k ∧ (∀ j, j < k → s.getD j 0 ≠ 32) ∧ Row wr w.heap.size 31 Z ∧ Below w.heap.size w wr) (fun i _ => s.length - (intOf i).toNat)
  case atStart => exact ⟨0, Nat.zero_le _, rfl, fun j hj => by omega, q1, hb1⟩
  case round =>
   clear q1 hb1
   obtain ⟨k, hk, rfl, hz, q1, hb1⟩ := hrel
   by_cases hlt : k < s.length
   ·have hlt' : (k : Int) < (s.length : Int) := by omega
    have hix := HIX.out k hlt
    by_cases hx : s.getD k 0 = 32
    ·have HBL := Lib.hid (HAT.out k hlt hx hz)
     rw [hx] at hix
     have hix : ∀ w, (Instr.index 9 (.string S) (.int .i64 (k : Int))).run Tryz.prog w = .ok (.int .u8 32) w := hix
     have hcut := HCUT.out k
     have HH := Lib.hid (fun j h3 h4 h5 => HPH.out k j hl2 HBL.out h3 h4 h5)
     have HM := Lib.hid (fun h => HPM.out k hl2 HBL.out h)
     have hbl : (s.drop (k + 1)).length ≤ 600 := by rw [List.length_drop]; omega
     have hks : (k : Int) + 1 ≤ (s.length : Int) := by omega
     have hwk : IntKind.i64.wrap ((k : Int) + 1) = (k : Int) + 1 := by rw [IntKind.wrap_i64]; omega
     have hkn : ((k : Int) + 1).toNat = k + 1 := by omega
     clear HPH HPM HBL HAT HNO HPL HPW HIX HCUT hz hx
     generalize s.drop (k + 1) = b at *
     have hnum := fun w' => rnumber16_any b (by omega) w'
     have hnam := fun w' => rnames17_own b (by omega) w'
     rw [show numAns (numberL b) = .tuple #[.int .u64 (((numberL b).getD 0 : Nat) : Int), .bool (numberL b).isSome] from rfl] at hnum
     unfold GaveRowF at hnam
     have hnum := Lib.hid hnum
     have hnam := Lib.hid hnam
     have hnet := fun w' => rparse13_any b (by omega) w'
     have hcst := Lib.hid (fun w' => fparse_any b (by omega) w')
     rw [parsR_out] at hnet
     have hnet := Lib.hid hnet
     have HCA := Lib.hid (fun A c w' h j hj => cand_at b hbl A c w' h j hj)
     have HC := Lib.hid (cands_six b)
     have hro := (cands_ok b _ (cand_mem b 4 (by omega))).net
     rw [HC.out.2.2.2.2.1] at hro
     have hro : ((parseR b).getD zeroR).Ok := hro
     generalize (numberL b).getD 0 = n at *
     generalize (namesC b).getD [] = l at *
     generalize (parseC b).getD 0 = f at *
     obtain ⟨r, hr⟩ : ∃ r, r = (parseR b).getD zeroR := ⟨_, rfl⟩
     rw [← hr] at hnet HC hro
     obtain ⟨N, hN⟩ : ∃ N, N = rngV r := ⟨_, rfl⟩
     have hNl := Lib.hid (show N.length = 18 by rw [hN]; exact length_rngV' _ hro.a)
     have hzN := Lib.hid (show (Tryz.prog.info? 28).map (·.size) = some N.length by rw [hNl.out]; exact size_rng)
     have hzN2 := Lib.hid (show (Tryz.prog.info? 28).map (·.size) = some N.toArray.size by rw [List.size_toArray, hNl.out]; exact size_rng)
     have h18 := Lib.hid (show 18 = N.toArray.size by rw [List.size_toArray, hNl.out])
     have hN1 := Lib.hid (show N.toArray.all (·.oneCell') = true by rw [hN]; exact rngV_one' _)
     have HN := Lib.hid hN
     rw [← hN] at hnet
     clear hr hN hro hbl
     generalize hBB : bstr b = B at *
     have HB := Lib.hid hBB
     clear hBB
     go_wp2_with (first
      | (go_at_call 53; refine (hnum.out _).mono ?_; rintro e w2 ⟨rfl, hq2⟩; have q2 := q1.later hq2 q1.lt; have hb2 := hb1.trans (hq2.mono hb1.size))
      | (go_at_call 54; refine (hnam.out _).mono ?_; rintro e w3 ⟨A, c, rfl, sl3, hap, hq3⟩; have hap := Lib.hid (hap _ q2.lt); have q3 := q2.later hq3 q2.lt; have hb3 := hb2.trans (hq3.mono hb2.size))
      | (go_at_call 55; refine (hnet.out _).mono ?_; rintro e w4 ⟨rfl, hq4⟩; have q4 := q3.later hq4 q3.lt; have sl4 := sl3.later (Nat.le_refl _) hq4; have hb4 := hb3.trans (hq4.mono hb3.size))
      | (have _t := hb4; refine wpList_store_row rfl 28 (.tmp 10) (.tmp 47) rfl w4.heap.size N.toArray rfl rfl 28 _ (heap_alloc_new w4 _) hzN2.out h18.out hN1.out ?_; refine Hid.out ?_))
     refine Lib.hid ?_
     generalize hw5 : World.setRow _ _ _ = w5
     obtain ⟨r5, hb5'⟩ := row_new_set (xs := N) hw5
     have q5 := q4.later hb5' q4.lt
     have sl5 := sl4.later (Nat.le_refl _) hb5'
     have hb5 := hb4.trans (hb5'.mono hb4.size)
     clear hw5 hb5' q1 q2 q3 q4 sl3 sl4 hix hcut hnum hnam hnet hb1 hb2 hb3 hb4 hq2 hq3 hq4
     generalize w4.heap.size = g at *
     go_wp2_with (first
      | (go_at_call 56; refine (hcst.out _).mono ?_; rintro e w6 ⟨rfl, hq6⟩; have q6 := q5.later hq6 q5.lt; have r6 := r5.later hq6 r5.lt; have sl6 := sl5.later (Nat.le_refl _) hq6; have hb6 := hb5.trans (hq6.mono hb5.size); refine Hid.out ?_))
     refine Lib.hid ?_
     clear q5 r5 sl5 hb5 hq6 hcst
     obtain ⟨X, hX⟩ : ∃ X : Nat → List Value, X = fun j => prdV (candQ b j) (addrQ A c j).1 (addrQ A c j).2 := ⟨_, rfl⟩
     have HXl := Lib.hid (show ∀ j, j < 6 → (X j).length = 23 by intro j hj; rw [hX]; exact length_prdV _ (HCA.out A c w6 sl6 j hj).ok.net.a _ _)
     have hB0 : ∀ w', (Instr.build 31 #[(0, .int .i64 1), (1, .int .u64 (n : Int))]).run Tryz.prog w' = .ok (.agg (X 0).toArray) w' := by
      intro w'; rw [hX]; show _ = Result.ok (Value.agg (prdV (candQ b 0) none 0).toArray) w'; rw [HC.out.1]; exact build_1 n 1 w'
     have hB1 : ∀ w', (Instr.build 31 #[(0, .int .i64 2), (1, .int .u64 (n : Int))]).run Tryz.prog w' = .ok (.agg (X 1).toArray) w' := by
      intro w'; rw [hX]; show _ = Result.ok (Value.agg (prdV (candQ b 1) none 0).toArray) w'; rw [HC.out.2.1]; exact build_1 n 2 w'
     have hB2 : ∀ w', (Instr.build 31 #[(0, .int .i64 3), (2, .slice A l.length c)]).run Tryz.prog w' = .ok (.agg (X 2).toArray) w' := by
      intro w'; rw [hX]; show _ = Result.ok (Value.agg (prdV (candQ b 2) A c).toArray) w'; rw [HC.out.2.2.1]; exact build_3 A l c w'
     have hB3 : ∀ w', (Instr.build 31 #[(0, .int .i64 4), (3, .string B)]).run Tryz.prog w' = .ok (.agg (X 3).toArray) w' := by
      intro w'; rw [hX, ← HB.out]; show _ = Result.ok (Value.agg (prdV (candQ b 3) none 0).toArray) w'; rw [HC.out.2.2.2.1]; exact build_4 b w'
     have hB4 : ∀ w', (Instr.build 31 #[(0, .int .i64 5), (4, .agg N.toArray)]).run Tryz.prog w' = .ok (.agg (X 4).toArray) w' := by
      intro w'; rw [hX]; show _ = Result.ok (Value.agg (prdV (candQ b 4) none 0).toArray) w'; rw [HC.out.2.2.2.2.1]; refine (build_5 N hNl.out w').trans ?_; rw [HN.out]; rfl
     have hB5 : ∀ w', (Instr.build 31 #[(0, .int .i64 6), (5, .float .f64 f)]).run Tryz.prog w' = .ok (.agg (X 5).toArray) w' := by
      intro w'; rw [hX]; show _ = Result.ok (Value.agg (prdV (candQ b 5) none 0).toArray) w'; rw [HC.out.2.2.2.2.2]; exact build_6 f w'
     have HXe := Lib.hid (show ∀ j, X j = prdV (candQ b j) (addrQ A c j).1 (addrQ A c j).2 by intro j; rw [hX])
     obtain ⟨R, hR1, hR2, hR3⟩ := slice_six X HXl.out
     have HR2 := Lib.hid hR2
     have HR3 := Lib.hid hR3
     have HB0 := Lib.hid hB0
     have HB1 := Lib.hid hB1
     have HB2 := Lib.hid hB2
     have HB3 := Lib.hid hB3
     have HB4 := Lib.hid hB4
     have HB5 := Lib.hid hB5
     clear hX hR1 hR2 hR3 hB0 hB1 hB2 hB3 hB4 hB5
     go_wp2_with (first
      | (refine wpList_build2 rfl 31 0 1 _ _ rfl (.int .i64 1) (.int .u64 (n : Int)) (.agg (X 0).toArray) rfl rfl (HB0.out _) ?_)
      | (refine wpList_build2 rfl 31 0 1 _ _ rfl (.int .i64 2) (.int .u64 (n : Int)) (.agg (X 1).toArray) rfl rfl (HB1.out _) ?_)
      | (refine wpList_build2 rfl 31 0 2 _ _ rfl (.int .i64 3) (.slice A l.length c) (.agg (X 2).toArray) rfl rfl (HB2.out _) ?_)
      | (refine wpList_build2 rfl 31 0 3 _ _ rfl (.int .i64 4) (.string B) (.agg (X 3).toArray) rfl rfl (HB3.out _) ?_)
      | (with_reducible refine wpList_load_mid rfl 28 (.tmp 10) rfl g 0 rfl N _ (row_range r6) Tryz.underlying28 rfl hzN.out ?_)
      | (refine wpList_build2 rfl 31 0 4 _ _ rfl (.int .i64 5) (.agg N.toArray) (.agg (X 4).toArray) rfl rfl (HB4.out _) ?_)
      | (refine wpList_build2 rfl 31 0 5 _ _ rfl (.int .i64 6) (.float .f64 f) (.agg (X 5).toArray) rfl rfl (HB5.out _) ?_)
      | (refine wpList_sliceN rfl 44 6 [_, _, _, _, _, _] rfl [(0, .agg (X 0).toArray), (1, .agg (X 1).toArray), (2, .agg (X 2).toArray), (3, .agg (X 3).toArray), (4, .agg (X 4).toArray), (5, .agg (X 5).toArray)] rfl _ (HR2.out _) ?_; refine Hid.out ?_))
     refine Lib.hid ?_
     obtain ⟨w7, hw7⟩ : ∃ w7, w7 = w6.alloc (.cells R.toArray 31) := ⟨_, rfl⟩
     rw [← hw7]
     have s7 : Row w7 w6.heap.size 31 R := by rw [hw7]; exact Row.new _ _ _
     have hb7' : Below w6.heap.size w6 w7 := by rw [hw7]; exact (Below.refl _ _).alloc (Nat.le_refl _) _
     have q7 := q6.later hb7' q6.lt
     have sl7 := sl6.later (Nat.le_refl _) hb7'
     have hb7 := hb6.trans (hb7'.mono hb6.size)
     clear hw7 hb7' q6 r6 sl6 hb6 HB0 HB1 HB2 HB3 HB4 HB5 HR2
     generalize w6.heap.size = gs at *
     go_wp2
     go_loopw [68] (fun i wr2 => ∃ j : Nat, j ≤ 6 ∧ i = .int .i64 j ∧ (∀ i, i < j → textP (candQ b i) ≠ s) ∧ Row wr2 w.heap.size 31 Z ∧ Row wr2 gs 31 R ∧ Sl wr2 A c (strsV l) ∧ Below w.heap.size w wr2) (fun i _ => 6 - (intOf i).toNat)
     case atStart => exact ⟨0, Nat.zero_le _, rfl, fun j hj => by omega, q7, s7, sl7, hb7⟩
     case round =>
      clear q7 s7 sl7 hb7
      obtain ⟨j, hj, rfl, hz, q7, s7, sl7, hb7⟩ := hrel
      by_cases hlt6 : j < 6
      ·have hlt6' : (j : Int) < 6 := by omega
       have hix : ∀ W, (Instr.indexAt 44 (.slice (some ⟨gs, 0, none⟩) 6 6) (.int .i64 (j : Int))).run Tryz.prog W = .ok (.pointer (some ⟨gs, j * 23, none⟩)) W := by
        intro W
        have := index_prd (some ⟨gs, 0, none⟩) gs 0 6 6 j rfl hlt6 W
        rw [Nat.zero_add] at this; exact this
       have hrg : wr.rangeAt gs (j * 23) (X j) := fun i v hv => by
        rw [s7.cell]; exact HR3.out j hlt6 i v hv
       have hpa := HCA.out A c wr sl7 j hlt6
       have htx := fun w' (h : Below wr.heap.size wr w') => rtext17_any (candQ b j) (addrQ A c j).1 (addrQ A c j).2 w' (hpa.later (Nat.le_refl _) h)
       rw [← HXe.out j] at htx
       have heq := HE.out (textP (candQ b j))
       have HHJ := Lib.hid (HH.out j hlt6 hz)
       have hXl := HXl.out j hlt6
       have hXe := HXe.out j
       have hX1 := Lib.hid (show (X j).toArray.all (·.oneCell') = true by rw [hXe]; exact prdV_one _ _ _)
       have htx := Lib.hid htx
       have HPA := Lib.hid hpa
       have HEX := Lib.hid hXe
       generalize X j = Y at *
       have hzY := Lib.hid (show (Tryz.prog.info? 31).map (·.size) = some Y.length by rw [hXl]; exact size_prd)
       have hzY2 := Lib.hid (show (Tryz.prog.info? 31).map (·.size) = some Y.toArray.size by rw [List.size_toArray, hXl]; exact size_prd)
       have h23 := Lib.hid (show 23 = Y.toArray.size by rw [List.size_toArray, hXl])
       have hZY := Lib.hid (show Z.toArray.size = Y.toArray.size by rw [List.size_toArray, List.size_toArray, hXl, hZl.out])
       have HZZ := Lib.hid hz
       have HRG := Lib.hid hrg
       clear hXl hXe hz hpa hrg
       go_wp2_with (first
        | (with_reducible refine wpList_load_mid rfl 31 (.tmp 70) rfl gs (j * 23) rfl Y _ HRG.out Tryz.underlying31 rfl hzY.out ?_)
        | (refine wpList_store_row rfl 31 (.tmp 15) (.tmp 71) rfl wr.heap.size Y.toArray rfl rfl 31 _ (heap_alloc_new wr _) hzY2.out h23.out hX1.out ?_; refine Hid.out ?_))
       refine Lib.hid ?_
       generalize hw9 : World.setRow _ _ _ = w9
       obtain ⟨r9, hb9'⟩ := row_new_set (xs := Y) hw9
       have q9 := q7.later hb9' q7.lt
       have s9 := s7.later hb9' s7.lt
       have sl9 := sl7.later (Nat.le_refl _) hb9'
       have hb9 := hb7.trans (hb9'.mono hb7.size)
       have hpa := HPA.out.later (Nat.le_refl _) hb9'
       have HTX := Lib.hid (htx.out w9 hb9')
       clear htx hw9 hb9' q7 s7 sl7 hb7 hix HRG HPA
       generalize wr.heap.size = g9 at *
       go_wp2_with (first
        | (with_reducible refine wpList_load_mid rfl 31 (.tmp 15) rfl g9 0 rfl Y _ (row_range r9) Tryz.underlying31 rfl hzY.out ?_)
        | (go_at_call 32; refine HTX.out.mono ?_; rintro e w10 ⟨rfl, hq10⟩; have r10 := r9.later hq10 r9.lt; have q10 := q9.later hq10 q9.lt; have s10 := s9.later hq10 s9.lt; have sl10 := sl9.later (Nat.le_refl _) hq10; have hpa := hpa.later (Nat.le_refl _) hq10; have hb10 := hb9.trans (hq10.mono hb9.size); clear r9 q9 s9 sl9 hb9; refine Hid.out ?_))
       refine Lib.hid ?_
       clear HTX hq10
       by_cases hT : textP (candQ b j) = s
       ·have HX := Lib.hid (HHJ.out hT)
        rw [decide_eq_true hT] at heq
        have Q2 := Lib.hid (show w10.heap[w.heap.size]? = some (.cells Z.toArray 31 (0, 0)) from q10)
        have HPA := Lib.hid hpa
        clear hT HZZ q10 s10 sl10 hpa
        generalize bstr (textP (candQ b j)) = TX at *
        go_wp2_with (first
         | (with_reducible refine wpList_load_mid rfl 31 (.tmp 15) rfl g9 0 rfl Y _ (row_range r10) Tryz.underlying31 rfl hzY.out ?_)
         | (with_reducible refine wpList_store_row rfl 31 (.tmp 2) (.tmp 76) rfl w.heap.size Y.toArray rfl rfl 31 Z.toArray Q2.out hzY2.out hZY.out hX1.out ?_; refine Hid.out ?_))
        refine Lib.hid ?_
        generalize hw8 : World.setRow _ _ _ = w8
        obtain ⟨r8, hg8⟩ := row_set (show Row w10 w.heap.size 31 Z from Q2.out) hw8
        have hb8 := hb10.grown hg8 hb10.size (fun k h => by cases h; exact Nat.le_refl _)
        have hpa := HPA.out.apart hg8 (addrQ_apart A c j _ hap.out)
        have R8 := Lib.hid (show w8.heap[w.heap.size]? = some (.cells Y.toArray 31 (0, 0)) from r8)
        clear hw8 r8 hg8 Q2
        go_wp2_with fail
        exact ⟨rfl, _, results_row_tmp rfl _ _ w.heap.size 31 Y.toArray (0, 0) _ rfl R8.out Tryz.underlying31 rfl hzY2.out _ rfl, (addrQ A c j).1, (addrQ A c j).2, by rw [HX.out, HEX.out]; rfl, by rw [HX.out]; exact hpa, hb8⟩
       ·have HZ := Lib.hid (show ∀ i : Nat, i < j + 1 → textP (candQ b i) ≠ s from fun i hi => by
         by_cases e : i = j
         ·rw [e]; exact hT
         ·exact HZZ.out i (by omega))
        rw [decide_eq_false hT] at heq
        clear hT HZZ HHJ
        generalize bstr (textP (candQ b j)) = TX at *
        go_wp2
        go_roundw
        case rel => exact ⟨j + 1, by omega, by go_num, HZ.out, q10, s10, sl10, hb10⟩
        case measure => simp [intOf]; omega
      ·obtain rfl : j = 6 := by omega
       have HZ := Lib.hid hz
       clear hz
       have HX := Lib.hid (HM.out HZ.out)
       have Q2 := Lib.hid (show wr.heap[w.heap.size]? = some (.cells Z.toArray 31 (0, 0)) from q7)
       go_wp2_with (have _t := Q2; refine wpList_store_row rfl 31 (.tmp 2) (.tmp 78) rfl w.heap.size Z.toArray rfl (by rw [hZe.out]; rfl) 31 Z.toArray Q2.out hzZ.out rfl hZ1.out ?_; refine Hid.out ?_)
       refine Lib.hid ?_
       generalize hw8 : World.setRow _ _ _ = w8
       obtain ⟨r8, hg8⟩ := row_set (show Row wr w.heap.size 31 Z from Q2.out) hw8
       have hb8 := hb7.grown hg8 hb7.size (fun k h => by cases h; exact Nat.le_refl _)
       have R8 := Lib.hid (show w8.heap[w.heap.size]? = some (.cells Z.toArray 31 (0, 0)) from r8)
       clear hw8 r8 hg8 Q2
       go_wp2_with fail
       exact ⟨rfl, _, results_row_tmp rfl _ _ w.heap.size 31 Z.toArray (0, 0) _ rfl R8.out Tryz.underlying31 rfl hzZ.out _ rfl, none, 0, by rw [HX.out, hZd.out]; rfl, by rw [HX.out]; exact zero_at _, hb8⟩
    ·have hx2 : ((s.getD k 0).toNat : Int) ≠ 32 := by
      intro h
      exact hx (UInt8.toNat_inj.1 (by show _ = 32; omega))
     generalize hxx : (s.getD k 0).toNat = x at *
     have HXX := Lib.hid hx
     clear hx hxx
     go_wp2
     go_roundw
     case rel => exact ⟨k + 1, by omega, by go_num, fun j hj => by
      by_cases h : j < k
      ·exact hz j h
      ·obtain rfl : j = k := by omega
       exact HXX.out, q1, hb1⟩
     case measure => simp [intOf]; omega
   ·obtain rfl : k = s.length := by omega
    have HZ0 := Lib.hid hz
    clear hz
    have HX := Lib.hid (HPW.out hl2 (HNO.out HZ0.out))
    have Q2 := Lib.hid (show wr.heap[w.heap.size]? = some (.cells Z.toArray 31 (0, 0)) from q1)
    go_wp2_with (have _t := Q2; refine wpList_store_row rfl 31 (.tmp 2) (.tmp 79) rfl w.heap.size Z.toArray rfl (by rw [hZe.out]; rfl) 31 Z.toArray Q2.out hzZ.out rfl hZ1.out ?_; refine Hid.out ?_)
    refine Lib.hid ?_
    generalize hw8 : World.setRow _ _ _ = w8
    obtain ⟨r8, hg8⟩ := row_set (show Row wr w.heap.size 31 Z from Q2.out) hw8
    have hb8 := hb1.grown hg8 hb1.size (fun k h => by cases h; exact Nat.le_refl _)
    have R8 := Lib.hid (show w8.heap[w.heap.size]? = some (.cells Z.toArray 31 (0, 0)) from r8)
    clear hw8 r8 hg8 Q2
    go_wp2_with fail
    exact ⟨rfl, _, results_row_tmp rfl _ _ w.heap.size 31 Z.toArray (0, 0) _ rfl R8.out Tryz.underlying31 rfl hzZ.out _ rfl, none, 0, by rw [HX.out, hZd.out]; rfl, by rw [HX.out]; exact zero_at _, hb8⟩
theorem two_boxes {w w1 : World} {Q P : List Value} {t u : TypeId} (h : (w.alloc (.cells Q.toArray t)).alloc (.cells P.toArray u) = w1) : Row w1 w.heap.size t Q ∧ Row w1 (w.heap.size + 1) u P ∧ Below w.heap.size w w1 := by
 subst h
 have h1 : Row (w.alloc (.cells Q.toArray t)) w.heap.size t Q := Row.new w _ _
 have hb1 : Below w.heap.size w (w.alloc (.cells Q.toArray t)) := (Below.refl _ w).alloc (Nat.le_refl _) _
 have hb2 : Below (w.alloc (.cells Q.toArray t)).heap.size (w.alloc (.cells Q.toArray t)) ((w.alloc (.cells Q.toArray t)).alloc (.cells P.toArray u)) := (Below.refl _ _).alloc (Nat.le_refl _) _
 have h2 : Row ((w.alloc (.cells Q.toArray t)).alloc (.cells P.toArray u)) (w.alloc (.cells Q.toArray t)).heap.size u P := Row.new _ _ _
 have hs : (w.alloc (.cells Q.toArray t)).heap.size = w.heap.size + 1 := Array.size_push _
 rw [hs] at h2
 exact ⟨h1.later hb2 h1.lt, h2, hb1.trans (hb2.mono hb1.size)⟩
theorem req_cells {w : World} {g : Nat} {t : TypeId} {r : Req} (hn : r.src.Ok) (h : Row w g t (reqV r)) :
  w.cell? ⟨g, 0, none⟩ = some (.string (bstr r.op)) ∧ w.cell? ⟨g, 1, none⟩ = some (.string (bstr r.path)) ∧ w.rangeAt g 2 (adrV r.src) ∧ w.cell? ⟨g, 19, none⟩ = some (.float .f64 r.cost) := by
 refine ⟨by rw [h.cell]; rfl, by rw [h.cell]; rfl, range_of_row (A := [_, _]) (B := adrV r.src) (C := [.float .f64 r.cost]) h, ?_⟩
 rw [h.cell]
 unfold reqV
 rw [List.getElem?_append_right (by simp), List.getElem?_append_right (by rw [length_adrV hn]; simp), length_adrV hn]
 rfl
set_option maxHeartbeats 2000000 in
theorem rhas18_any (l : List (List UInt8)) (hl : l.length ≤ 1000000) (A : Option Addr) (c : Nat) (s : List UInt8) (w : World) (hsl : Sl w A c (strsV l)) :
  Calls Tryz.prog 34 #[.slice A l.length c, .string (bstr s)] w fun e w' => e = .returned (.bool (decide (s ∈ l))) ∧ w = w' := by
 have HIN := Lib.hid (fun (h : s ∈ l) => decide_eq_true h)
 have HNO := Lib.hid (fun (h : s ∉ l) => decide_eq_false h)
 have HE := Lib.hid (fun k => bstr_beq (l.getD k []) s)
 have HMEM := Lib.hid (fun k (hk : k < l.length) => show l.getD k [] ∈ l by rw [List.getD_eq_getElem?_getD, List.getElem?_eq_getElem hk]; exact List.getElem_mem hk)
 generalize decide (s ∈ l) = V at *
 obtain ⟨S, hS⟩ : ∃ S, S = bstr s := ⟨_, rfl⟩
 rw [← hS] at HE ⊢
 clear hS
 go_enter Tryz.func34, Tryz.ntmps34
 go_wp2
 go_loop [9] (fun i => ∃ k : Nat, k ≤ l.length ∧ i = .int .i64 k ∧ ∀ j < k, l.getD j [] ≠ s) (fun i => l.length - (intOf i).toNat)
 case atStart => exact ⟨0, Nat.zero_le _, rfl, fun j hj => by omega⟩
 case round =>
  obtain ⟨k, hk, rfl, hz⟩ := hrel
  by_cases hlt : k < l.length
  ·have hlt' : (k : Int) < (l.length : Int) := by omega
   obtain ⟨b1, o1, rfl, -, -⟩ := hsl.rd.get (i := k) (by rw [length_strsV]; exact hlt)
   have hix := index_strs (some ⟨b1, o1, none⟩) b1 o1 l.length c k rfl hlt
   have hce := strs_cell hsl k hlt
   have heq := HE.out k
   by_cases hq : l.getD k [] = s
   ·have HV := Lib.hid (HIN.out (hq ▸ HMEM.out k hlt))
    rw [decide_eq_true hq] at heq
    clear hq hz
    generalize bstr (l.getD k []) = Q at *
    go_wp2
    go_ret
    exact ⟨by rw [HV.out]; rfl, rfl⟩
   ·have HZ := Lib.hid (show ∀ j < k + 1, l.getD j [] ≠ s from fun j hj => by
     by_cases e : j = k
     ·rw [e]; exact hq
     ·exact hz j (by omega))
    rw [decide_eq_false hq] at heq
    clear hq hz
    generalize bstr (l.getD k []) = Q at *
    go_wp2
    go_roundw
    case rel => exact ⟨k + 1, by omega, by go_num, HZ.out⟩
    case measure => simp [intOf]; omega
  ·obtain rfl : k = l.length := by omega
   have HV := Lib.hid (HNO.out (fun h => by
    obtain ⟨i, hi, e⟩ := List.mem_iff_getElem.1 h
    have := hz i hi
    rw [List.getD_eq_getElem?_getD, List.getElem?_eq_getElem hi] at this
    exact this e))
   clear hz
   go_wp2
   go_ret
   exact ⟨by rw [HV.out]; rfl, rfl⟩
set_option maxHeartbeats 4000000 in
theorem rholds_any (p : Prd) (A : Option Addr) (c : Nat) (r : Req) (t : Nat) (w : World) (hp : PrdAt w p A c) (hr : r.Ok) (_ht : t < 2 ^ 64) :
  Calls Tryz.prog 13 #[.agg (prdV p A c).toArray, .agg (reqV r).toArray, .int .u64 (t : Int)] w fun e w' => e = .returned (.bool (holdsL p r t)) ∧ Below w.heap.size w w' := by
 have hsz := Lib.hid (show (Tryz.prog.info? 31).map (·.size) = some (prdV p A c).length by rw [length_prdV p hp.ok.net.a]; exact size_prd)
 have hsR := Lib.hid (show (Tryz.prog.info? 28).map (·.size) = some (rngV p.net).length by rw [length_rngV' _ hp.ok.net.a]; exact size_rng)
 have hsA := Lib.hid (show (Tryz.prog.info? 26).map (·.size) = some (adrV r.src).length by rw [length_adrV hr.src]; exact size_adr)
 have PC := Lib.hid (fun w' g (h : Row w' g 31 (prdV p A c)) => prd_cells (p := p) (A := A) (c := c) hp.ok.net.a h)
 have RC := Lib.hid (fun w' g (h : Row w' g 33 (reqV r)) => req_cells (r := r) hr.src h)
 obtain ⟨X, hX⟩ : ∃ X, X = prdV p A c := ⟨_, rfl⟩
 obtain ⟨R, hR⟩ : ∃ R, R = reqV r := ⟨_, rfl⟩
 obtain ⟨w1, hw1⟩ : ∃ w1, w1 = (w.alloc (.cells X.toArray 31)).alloc (.cells R.toArray 33) := ⟨_, rfl⟩
 obtain ⟨r1, q1, hb1⟩ := two_boxes hw1.symm
 have HW := Lib.hid hw1
 have a1 := hp.later (Nat.le_refl _) hb1
 have htx := rtext17_any p A c w1 a1
 have hnm := fun w' => rnormal_any r.path (by have := hr.path; omega) w'
 rw [← hX] at hsz PC htx ⊢
 rw [← hR] at RC ⊢
 have htx := Lib.hid htx
 have hnm := Lib.hid hnm
 have tokL : True := trivial
 have e1 := bstr_empty17 (textP p)
 have HV := Lib.hid (show holdsL p r t = if textP p = [] then false else if p.kind = 1 then decide (t < p.time) else if p.kind = 2 then decide (p.time ≤ t) else if p.kind = 3 then decide (r.op ∈ p.names) else if p.kind = 4 then pathHolds p.path (normL r.path) else if p.kind = 5 then hasR p.net r.src else atMostC r.cost p.cost from rfl)
 have HPR := Lib.hid (path_right p)
 have HNL := Lib.hid (fun x h => norm_len r.path x h)
 generalize holdsL p r t = V at *
 clear hX hR hw1
 by_cases ex : textP p = []
 ·have HX := Lib.hid (HV.out.trans (if_pos ex))
  rw [decide_eq_true ex] at e1
  clear HV ex
  generalize bstr (textP p) = TX at *
  go_enter Tryz.func13, Tryz.ntmps13
  go_wp2_with (first
   | (have _t := tokL; rw [← HW.out]; with_reducible refine wpList_load_mid rfl 31 (.tmp 3) rfl w.heap.size 0 rfl X _ (row_range r1) Tryz.underlying31 rfl hsz.out ?_; clear tokL)
   | (go_at_call 32; refine htx.out.mono ?_; rintro e w2 ⟨rfl, hq⟩; have r1 := r1.later hq r1.lt; have q1 := q1.later hq q1.lt; have a1 := a1.later (Nat.le_refl _) hq; have hb1 := hb1.trans (hq.mono hb1.size); clear hq; have j1 := (RC.out _ _ q1).2.1))
  go_ret
  exact ⟨by rw [HX.out]; rfl, hb1⟩
 rw [decide_eq_false ex] at e1
 have HX := Lib.hid (HV.out.trans (if_neg ex))
 clear HV
 by_cases ek : p.kind = 1
 ·have HY := Lib.hid (HX.out.trans (if_pos ek))
  have tm := hp.ok.time
  generalize bstr (textP p) = TX at *
  clear HX ex
  clear tm
  go_enter Tryz.func13, Tryz.ntmps13
  go_wp2_with (first
   | (have _t := tokL; rw [← HW.out]; with_reducible refine wpList_load_mid rfl 31 (.tmp 3) rfl w.heap.size 0 rfl X _ (row_range r1) Tryz.underlying31 rfl hsz.out ?_; clear tokL)
   | (go_at_call 32; refine htx.out.mono ?_; rintro e w2 ⟨rfl, hq⟩; have r1 := r1.later hq r1.lt; have q1 := q1.later hq q1.lt; have a1 := a1.later (Nat.le_refl _) hq; have hb1 := hb1.trans (hq.mono hb1.size); clear hq; have j1 := (RC.out _ _ q1).2.1)
   | (go_at_call 33; refine (hnm.out _).mono ?_; rintro e w3 ⟨rfl, hq⟩; have r1 := r1.later hq r1.lt; have q1 := q1.later hq q1.lt; have a1 := a1.later (Nat.le_refl _) hq; have hb1 := hb1.trans (hq.mono hb1.size); clear hq j1; obtain ⟨k0, k1, k2, k3, k4, k22⟩ := PC.out _ _ r1; obtain ⟨j0, j1, j2, j19⟩ := RC.out _ _ q1; rw [ek] at k0))
  go_ret
  exact ⟨by rw [HY.out]; rfl, hb1⟩
 have n1 := ek
 clear ek
 by_cases ek : p.kind = 2
 ·have HY := Lib.hid (HX.out.trans ((if_neg n1).trans (if_pos ek)))
  have tm := hp.ok.time
  generalize bstr (textP p) = TX at *
  clear HX ex n1
  clear tm
  go_enter Tryz.func13, Tryz.ntmps13
  go_wp2_with (first
   | (have _t := tokL; rw [← HW.out]; with_reducible refine wpList_load_mid rfl 31 (.tmp 3) rfl w.heap.size 0 rfl X _ (row_range r1) Tryz.underlying31 rfl hsz.out ?_; clear tokL)
   | (go_at_call 32; refine htx.out.mono ?_; rintro e w2 ⟨rfl, hq⟩; have r1 := r1.later hq r1.lt; have q1 := q1.later hq q1.lt; have a1 := a1.later (Nat.le_refl _) hq; have hb1 := hb1.trans (hq.mono hb1.size); clear hq; have j1 := (RC.out _ _ q1).2.1)
   | (go_at_call 33; refine (hnm.out _).mono ?_; rintro e w3 ⟨rfl, hq⟩; have r1 := r1.later hq r1.lt; have q1 := q1.later hq q1.lt; have a1 := a1.later (Nat.le_refl _) hq; have hb1 := hb1.trans (hq.mono hb1.size); clear hq j1; obtain ⟨k0, k1, k2, k3, k4, k22⟩ := PC.out _ _ r1; obtain ⟨j0, j1, j2, j19⟩ := RC.out _ _ q1; rw [ek] at k0))
  go_ret
  exact ⟨by rw [HY.out]; rfl, hb1⟩
 have n2 := ek
 clear ek
 by_cases ek : p.kind = 3
 ·have HY := Lib.hid ((((HX.out).trans (if_neg n1)).trans (if_neg n2)).trans (if_pos ek))
  have hhs := Lib.hid (fun w' (h : PrdAt w' p A c) => rhas18_any p.names (by have := sumS_len p.names; have := hp.sum; omega) A c r.op w' h.names)
  clear HX ex n1 n2
  generalize bstr (textP p) = TX at *
  go_enter Tryz.func13, Tryz.ntmps13
  go_wp2_with (first
   | (have _t := tokL; rw [← HW.out]; with_reducible refine wpList_load_mid rfl 31 (.tmp 3) rfl w.heap.size 0 rfl X _ (row_range r1) Tryz.underlying31 rfl hsz.out ?_; clear tokL)
   | (go_at_call 32; refine htx.out.mono ?_; rintro e w2 ⟨rfl, hq⟩; have r1 := r1.later hq r1.lt; have q1 := q1.later hq q1.lt; have a1 := a1.later (Nat.le_refl _) hq; have hb1 := hb1.trans (hq.mono hb1.size); clear hq; have j1 := (RC.out _ _ q1).2.1)
   | (go_at_call 33; refine (hnm.out _).mono ?_; rintro e w3 ⟨rfl, hq⟩; have r1 := r1.later hq r1.lt; have q1 := q1.later hq q1.lt; have a1 := a1.later (Nat.le_refl _) hq; have hb1 := hb1.trans (hq.mono hb1.size); clear hq j1; obtain ⟨k0, k1, k2, k3, k4, k22⟩ := PC.out _ _ r1; obtain ⟨j0, j1, j2, j19⟩ := RC.out _ _ q1; rw [ek] at k0)
   | (go_at_call 34; refine (hhs.out _ a1).mono ?_; rintro e w4 ⟨rfl, rfl⟩))
  go_ret
  exact ⟨by rw [HY.out]; rfl, hb1⟩
 have n3 := ek
 clear ek
 by_cases ek : p.kind = 4
 ·have HY := Lib.hid (((((HX.out).trans (if_neg n1)).trans (if_neg n2)).trans (if_neg n3)).trans (if_pos ek))
  have hpl := right_len _ (HPR.out ex ek)
  clear HX ex n1 n2 n3
  generalize bstr (textP p) = TX at *
  cases hno : normL r.path with
  | none =>
   rw [hno] at hnm HY
   clear hno
   go_enter Tryz.func13, Tryz.ntmps13
   go_wp2_with (first
    | (have _t := tokL; rw [← HW.out]; with_reducible refine wpList_load_mid rfl 31 (.tmp 3) rfl w.heap.size 0 rfl X _ (row_range r1) Tryz.underlying31 rfl hsz.out ?_; clear tokL)
    | (go_at_call 32; refine htx.out.mono ?_; rintro e w2 ⟨rfl, hq⟩; have r1 := r1.later hq r1.lt; have q1 := q1.later hq q1.lt; have a1 := a1.later (Nat.le_refl _) hq; have hb1 := hb1.trans (hq.mono hb1.size); clear hq; have j1 := (RC.out _ _ q1).2.1)
    | (go_at_call 33; refine (hnm.out _).mono ?_; rintro e w3 ⟨rfl, hq⟩; have r1 := r1.later hq r1.lt; have q1 := q1.later hq q1.lt; have a1 := a1.later (Nat.le_refl _) hq; have hb1 := hb1.trans (hq.mono hb1.size); clear hq j1; obtain ⟨k0, k1, k2, k3, k4, k22⟩ := PC.out _ _ r1; obtain ⟨j0, j1, j2, j19⟩ := RC.out _ _ q1; rw [ek] at k0))
   go_ret
   exact ⟨by rw [HY.out]; rfl, hb1⟩
  | some at0 =>
   have hal := HNL.out at0 hno
   have hun := Lib.hid (fun w' => runder_any p.path at0 (by omega) (by omega) w')
   rw [hno] at hnm HY
   clear hno
   go_enter Tryz.func13, Tryz.ntmps13
   go_wp2_with (first
    | (have _t := tokL; rw [← HW.out]; with_reducible refine wpList_load_mid rfl 31 (.tmp 3) rfl w.heap.size 0 rfl X _ (row_range r1) Tryz.underlying31 rfl hsz.out ?_; clear tokL)
    | (go_at_call 32; refine htx.out.mono ?_; rintro e w2 ⟨rfl, hq⟩; have r1 := r1.later hq r1.lt; have q1 := q1.later hq q1.lt; have a1 := a1.later (Nat.le_refl _) hq; have hb1 := hb1.trans (hq.mono hb1.size); clear hq; have j1 := (RC.out _ _ q1).2.1)
    | (go_at_call 33; refine (hnm.out _).mono ?_; rintro e w3 ⟨rfl, hq⟩; have r1 := r1.later hq r1.lt; have q1 := q1.later hq q1.lt; have a1 := a1.later (Nat.le_refl _) hq; have hb1 := hb1.trans (hq.mono hb1.size); clear hq j1; obtain ⟨k0, k1, k2, k3, k4, k22⟩ := PC.out _ _ r1; obtain ⟨j0, j1, j2, j19⟩ := RC.out _ _ q1; rw [ek] at k0)
    | (go_at_call 35; refine (hun.out _).mono ?_; rintro e w4 ⟨rfl, hq⟩; have hb1 := hb1.trans (hq.mono hb1.size)))
   go_ret
   exact ⟨by rw [HY.out]; rfl, hb1⟩
 have n4 := ek
 clear ek
 by_cases ek : p.kind = 5
 ·have HY := Lib.hid ((((((HX.out).trans (if_neg n1)).trans (if_neg n2)).trans (if_neg n3)).trans (if_neg n4)).trans (if_pos ek))
  have hha := Lib.hid (fun w' => rhas_any p.net hp.ok.net r.src hr.src w')
  clear HX ex n1 n2 n3 n4
  generalize bstr (textP p) = TX at *
  go_enter Tryz.func13, Tryz.ntmps13
  go_wp2_with (first
   | (have _t := tokL; rw [← HW.out]; with_reducible refine wpList_load_mid rfl 31 (.tmp 3) rfl w.heap.size 0 rfl X _ (row_range r1) Tryz.underlying31 rfl hsz.out ?_; clear tokL)
   | (go_at_call 32; refine htx.out.mono ?_; rintro e w2 ⟨rfl, hq⟩; have r1 := r1.later hq r1.lt; have q1 := q1.later hq q1.lt; have a1 := a1.later (Nat.le_refl _) hq; have hb1 := hb1.trans (hq.mono hb1.size); clear hq; have j1 := (RC.out _ _ q1).2.1)
   | (go_at_call 33; refine (hnm.out _).mono ?_; rintro e w3 ⟨rfl, hq⟩; have r1 := r1.later hq r1.lt; have q1 := q1.later hq q1.lt; have a1 := a1.later (Nat.le_refl _) hq; have hb1 := hb1.trans (hq.mono hb1.size); clear hq j1; obtain ⟨k0, k1, k2, k3, k4, k22⟩ := PC.out _ _ r1; obtain ⟨j0, j1, j2, j19⟩ := RC.out _ _ q1; rw [ek] at k0)
   | (with_reducible refine wpList_load_mid rfl 28 (.tmp 53) rfl w.heap.size 4 rfl (rngV p.net) _ k4 Tryz.underlying28 rfl hsR.out ?_)
   | (with_reducible refine wpList_load_mid rfl 26 (.tmp 55) rfl (w.heap.size + 1) 2 rfl (adrV r.src) _ j2 Tryz.underlying26 rfl hsA.out ?_)
   | (go_at_call 36; refine (hha.out _).mono ?_; rintro e w4 ⟨rfl, hq⟩; have hb1 := hb1.trans (hq.mono hb1.size)))
  go_ret
  exact ⟨by rw [HY.out]; rfl, hb1⟩
 have n5 := ek
 clear ek
 have HY := Lib.hid ((((((HX.out).trans (if_neg n1)).trans (if_neg n2)).trans (if_neg n3)).trans (if_neg n4)).trans (if_neg n5))
 have hat := Lib.hid (fun w' => fatmost_any r.cost p.cost hr.cost hp.ok.cost w')
 have m1 : (p.kind == 1) = false := by rw [beq_eq_false_iff_ne]; exact n1
 have m2 : (p.kind == 2) = false := by rw [beq_eq_false_iff_ne]; exact n2
 have m3 : (p.kind == 3) = false := by rw [beq_eq_false_iff_ne]; exact n3
 have m4 : (p.kind == 4) = false := by rw [beq_eq_false_iff_ne]; exact n4
 have m5 : (p.kind == 5) = false := by rw [beq_eq_false_iff_ne]; exact n5
 clear HX ex n1 n2 n3 n4 n5
 generalize bstr (textP p) = TX at *
 go_enter Tryz.func13, Tryz.ntmps13
 go_wp2_with (first
  | (have _t := tokL; rw [← HW.out]; with_reducible refine wpList_load_mid rfl 31 (.tmp 3) rfl w.heap.size 0 rfl X _ (row_range r1) Tryz.underlying31 rfl hsz.out ?_; clear tokL)
  | (go_at_call 32; refine htx.out.mono ?_; rintro e w2 ⟨rfl, hq⟩; have r1 := r1.later hq r1.lt; have q1 := q1.later hq q1.lt; have a1 := a1.later (Nat.le_refl _) hq; have hb1 := hb1.trans (hq.mono hb1.size); clear hq; have j1 := (RC.out _ _ q1).2.1)
  | (go_at_call 33; refine (hnm.out _).mono ?_; rintro e w3 ⟨rfl, hq⟩; have r1 := r1.later hq r1.lt; have q1 := q1.later hq q1.lt; have a1 := a1.later (Nat.le_refl _) hq; have hb1 := hb1.trans (hq.mono hb1.size); clear hq j1; obtain ⟨k0, k1, k2, k3, k4, k22⟩ := PC.out _ _ r1; obtain ⟨j0, j1, j2, j19⟩ := RC.out _ _ q1)
  | (go_at_call 37; refine (hat.out _).mono ?_; rintro e w4 ⟨rfl, rfl⟩))
 go_ret
 exact ⟨by rw [HY.out]; rfl, hb1⟩
theorem one_box {w w1 : World} {Q : List Value} {t : TypeId} (h : w.alloc (.cells Q.toArray t) = w1) : Row w1 w.heap.size t Q ∧ Below w.heap.size w w1 := by
 subst h
 exact ⟨Row.new w _ _, (Below.refl _ w).alloc (Nat.le_refl _) _⟩
set_option maxHeartbeats 4000000 in
theorem rtext18_any (s : List UInt8) (hs : s.length ≤ 4000) (r : Req) (t : Nat) (w : World) (hr : r.Ok) (ht : t < 2 ^ 64) :
  Calls Tryz.prog 11 #[.string (bstr s), .agg (reqV r).toArray, .int .u64 (t : Int)] w fun e w' => e = .returned (.bool (holdsT s r t)) ∧ Below w.heap.size w w' := by
 have hsR := Lib.hid (show (Tryz.prog.info? 33).map (·.size) = some (reqV r).length by rw [length_reqV r hr.src]; exact size_req)
 have HV := Lib.hid (show holdsT s r t = ((parseP s).isSome && holdsL ((parseP s).getD zeroP) r t) from rfl)
 generalize holdsT s r t = V at *
 have hpa := fun w' => rparse17_any s hs w'
 unfold GavePrd at hpa
 have hho := Lib.hid (fun w' A c (h : PrdAt w' ((parseP s).getD zeroP) A c) => rholds_any ((parseP s).getD zeroP) A c r t w' h hr ht)
 obtain ⟨R, hR⟩ : ∃ R, R = reqV r := ⟨_, rfl⟩
 obtain ⟨w1, hw1⟩ : ∃ w1, w1 = w.alloc (.cells R.toArray 33) := ⟨_, rfl⟩
 obtain ⟨q1, hb1⟩ := one_box hw1.symm
 have HW := Lib.hid hw1
 rw [← hR] at hsR hho ⊢
 have hpa := Lib.hid hpa
 generalize holdsL ((parseP s).getD zeroP) r t = hv at *
 generalize hx : (parseP s).getD zeroP = x at *
 generalize (parseP s).isSome = ok at *
 generalize bstr s = S at *
 clear hR hw1 hx
 have tk : True := trivial
 cases ok
 all_goals
  go_enter Tryz.func11, Tryz.ntmps11
  go_wp2_with (first
   | (go_at_call 24; rw [← HW.out]; refine (hpa.out _).mono ?_; rintro e w2 ⟨A, c, rfl, ax, hq⟩; have hl := length_prdV x ax.ok.net.a A c; have hzX := Lib.hid (show (Tryz.prog.info? 31).map (·.size) = some (prdV x A c).length by rw [hl]; exact size_prd); have hzX2 := Lib.hid (show (Tryz.prog.info? 31).map (·.size) = some (prdV x A c).toArray.size by rw [List.size_toArray, hl]; exact size_prd); have h23 := Lib.hid (show 23 = (prdV x A c).toArray.size by rw [List.size_toArray, hl]); have hX1 := Lib.hid (prdV_one x A c); clear hl; have q1 := q1.later hq q1.lt; have hb1 := hb1.trans (hq.mono hb1.size); clear hq)
   | (have _t := tk; refine wpList_store_row rfl 31 (.tmp 7) (.tmp 12) rfl w2.heap.size (prdV x A c).toArray rfl rfl 31 _ (heap_alloc_new w2 _) hzX2.out h23.out hX1.out ?_; refine Hid.out ?_))
  refine Lib.hid ?_
  generalize hww : World.setRow _ _ _ = w3
  obtain ⟨x1, hq⟩ := row_new_set (xs := prdV x A c) hww
  have q1 := q1.later hq q1.lt
  have ax := ax.later (Nat.le_refl _) hq
  have hb1 := hb1.trans (hq.mono hb1.size)
  clear hww hq
  generalize w2.heap.size = g at *
  have hho := Lib.hid (hho.out w3 A c ax)
  clear ax
  obtain ⟨X, hX⟩ : ∃ X, X = prdV x A c := ⟨_, rfl⟩
  rw [← hX] at hho x1 hzX
  clear hX
  go_wp2_with (first
   | ((with_reducible refine wpList_step fun K hK => ?_); refine step_load_mid (some 16) rfl (by rfl) 31 (.tmp 7) rfl g 0 rfl X _ (row_range x1) Tryz.underlying31 rfl hzX.out ?_; refine hK _ _ ?_; clear hK)
   | ((with_reducible refine wpList_step fun K hK => ?_); refine step_load_mid (some 17) rfl (by rfl) 33 (.tmp 4) rfl w.heap.size 0 rfl R _ (row_range q1) Tryz.underlying33 rfl hsR.out ?_; refine hK _ _ ?_; clear hK)
   | (go_at_call 13; refine hho.out.mono ?_; rintro e w4 ⟨rfl, hq⟩; have hb1 := hb1.trans (hq.mono hb1.size); clear hq))
  go_ret
  exact ⟨by rw [HV.out]; rfl, hb1⟩
set_option maxHeartbeats 4000000 in
theorem rall18_any (l : List (List UInt8)) (hl : ∀ s ∈ l, s.length ≤ 4000) (A : Option Addr) (c : Nat) (r : Req) (t : Nat) (w : World) (hsl : Sl w A c (strsV l)) (hlen : l.length ≤ 1000000) (hr : r.Ok) (ht : t < 2 ^ 64) :
  Calls Tryz.prog 15 #[.slice A l.length c, .agg (reqV r).toArray, .int .u64 (t : Int)] w fun e w' => e = .returned (.bool (holdsA l r t)) ∧ Below w.heap.size w w' := by
 have hsR := Lib.hid (show (Tryz.prog.info? 33).map (·.size) = some (reqV r).length by rw [length_reqV r hr.src]; exact size_req)
 have HYES := Lib.hid (show (∀ k < l.length, holdsT (l.getD k []) r t = true) → holdsA l r t = true from fun h => by
  unfold holdsA
  rw [List.all_eq_true]
  intro s hs
  obtain ⟨i, hi, rfl⟩ := List.mem_iff_getElem.1 hs
  have := h i hi
  rw [List.getD_eq_getElem?_getD, List.getElem?_eq_getElem hi] at this
  exact this)
 have HNO := Lib.hid (show ∀ k < l.length, holdsT (l.getD k []) r t = false → holdsA l r t = false from fun k hk h => by
  unfold holdsA
  rw [List.all_eq_false]
  refine ⟨l[k], List.getElem_mem hk, ?_⟩
  rw [List.getD_eq_getElem?_getD, List.getElem?_eq_getElem hk] at h
  have h : holdsT l[k] r t = false := h
  rw [h]; decide)
 have HT := Lib.hid (fun k (hk : k < l.length) w' => rtext18_any (l.getD k []) (hl _ (by rw [List.getD_eq_getElem?_getD, List.getElem?_eq_getElem hk]; exact List.getElem_mem hk)) r t w' hr ht)
 generalize holdsA l r t = V at *
 generalize hhT : (fun k => holdsT (l.getD k []) r t) = fT
 have HF := Lib.hid (fun k => (congrFun hhT k : holdsT (l.getD k []) r t = fT k))
 clear hhT
 obtain ⟨R, hR⟩ : ∃ R, R = reqV r := ⟨_, rfl⟩
 obtain ⟨w1, hw1⟩ : ∃ w1, w1 = w.alloc (.cells R.toArray 33) := ⟨_, rfl⟩
 obtain ⟨q1, hb1⟩ := one_box hw1.symm
 have HW := Lib.hid hw1
 have hsl := hsl.later (Nat.le_refl _) hb1
 rw [← hR] at hsR HT ⊢
 clear hR hw1 hl
 go_enter Tryz.func15, Tryz.ntmps15
 go_wp2
 rw [← HW.out]
 clear HW
 go_loopw [11] (fun i wr => ∃ k : Nat, k ≤ l.length ∧ i = .int .i64 k ∧ (∀ j < k, fT j = true) ∧ Row wr w.heap.size 33 R ∧ Sl wr A c (strsV l) ∧ Below w.heap.size w wr) (fun i _ => l.length - (intOf i).toNat)
 case atStart => exact ⟨0, Nat.zero_le _, rfl, fun j hj => by omega, q1, hsl, hb1⟩
 case round =>
  clear q1 hsl hb1
  obtain ⟨k, hk, rfl, hz, q1, hsl, hb1⟩ := hrel
  by_cases hlt : k < l.length
  ·have hlt' : (k : Int) < (l.length : Int) := by omega
   obtain ⟨b1, o1, rfl, -, -⟩ := hsl.rd.get (i := k) (by rw [length_strsV]; exact hlt)
   have hix := index_strs (some ⟨b1, o1, none⟩) b1 o1 l.length c k rfl hlt
   have hce := strs_cell hsl k hlt
   have hT := Lib.hid (HT.out k hlt wr)
   have HN := Lib.hid (HNO.out k hlt)
   have HFk := Lib.hid (HF.out k)
   rw [HFk.out] at hT HN
   have HZ := Lib.hid hz
   generalize bstr (l.getD k []) = S at *
   clear hz
   cases hv : fT k with
   | true =>
    rw [hv] at hT
    have HZ2 := Lib.hid (show ∀ j < k + 1, fT j = true from fun j hj => by
     by_cases e : j = k
     ·rw [e]; exact hv
     ·exact HZ.out j (by omega))
    clear hv
    go_wp2_with (first
     | (with_reducible refine wpList_load_mid rfl 33 (.tmp 4) rfl w.heap.size 0 rfl R _ (row_range q1) Tryz.underlying33 rfl hsR.out ?_)
     | (go_at_call 11; refine hT.out.mono ?_; rintro e w3 ⟨rfl, hq⟩; have q1 := q1.later hq q1.lt; have hsl := hsl.later (Nat.le_refl _) hq; have hb1 := hb1.trans (hq.mono hb1.size)))
    go_roundw
    case rel => exact ⟨k + 1, by omega, by go_num, HZ2.out, q1, hsl, hb1⟩
    case measure => simp [intOf]; omega
   | false =>
    rw [hv] at hT
    have HX := Lib.hid (HN.out hv)
    clear hv
    go_wp2_with (first
     | (with_reducible refine wpList_load_mid rfl 33 (.tmp 4) rfl w.heap.size 0 rfl R _ (row_range q1) Tryz.underlying33 rfl hsR.out ?_)
     | (go_at_call 11; refine hT.out.mono ?_; rintro e w3 ⟨rfl, hq⟩; have hb1 := hb1.trans (hq.mono hb1.size)))
    go_ret
    exact ⟨by rw [HX.out]; rfl, hb1⟩
  ·obtain rfl : k = l.length := by omega
   have HX := Lib.hid (HYES.out (fun j hj => by rw [HF.out]; exact hz j hj))
   clear hz
   go_wp2
   go_ret
   exact ⟨by rw [HX.out]; rfl, hb1⟩
end Go.Proofs.YtjieebmcbpdeiaaGreatDoor
