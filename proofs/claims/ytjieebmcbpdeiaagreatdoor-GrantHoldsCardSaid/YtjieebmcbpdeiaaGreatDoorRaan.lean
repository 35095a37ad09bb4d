import Derived.Test.YtjieebmcbpdeiaaGreatDoorRaag
import Derived.Test.YtjieebmcbpdeiaaGreatDoorRaam
import Derived.Test.YtjieebmcbpdeiaaGreatDoorRaak
import Derived.Test.YtjieebmcbpdeiaaGreatDoorRaal
import Derived.Great.FillDense
import Derived.Test.YtjieebmcbpdeiaaGreatDoorRaai
import Derived.Test.YtjieebmcbpdeiaaGreatDoorRaae
import Derived.Great.BuildSlice
namespace Go.Proofs.YtjieebmcbpdeiaaGreatDoor
set_option maxRecDepth 100000
open Go Go.RowKit
theorem parsA_out (s : List UInt8) : ∃ (a : Adr) (b : Bool), a.Ok ∧ parsV (parseL s) = .tuple #[.agg (adrV a).toArray, .bool b] ∧ (b = true → parseL s = some a) ∧ (b = false → parseL s = none) := by
 cases hp : parseL s with
 | none => exact ⟨zeroA, false, zeroA_ok, rfl, (fun h => by cases h), fun _ => rfl⟩
 | some a => exact ⟨a, true, ((parseL_iff s a).1 hp).1, rfl, (fun _ => rfl), fun h => by cases h⟩
theorem parseR_at (s : List UInt8) (k : Nat) (a : Adr) (n : Nat) (hs : slashL s = some k) (hp : parseL (s.take k) = some a) (ht : textR ⟨a, n⟩ = s) : parseR s = some ⟨a, n⟩ := by
 refine (parseR_iff s ⟨a, n⟩).2 ⟨((parseL_iff _ a).1 hp).1, ?_, ht⟩
 refine (textR_ne _ ?_).1
 rw [ht]
 intro e
 rw [e] at hs; cases hs
theorem parseR_no (s : List UInt8) (k : Nat) (a : Adr) (hs : slashL s = some k) (hp : parseL (s.take k) = some a) (hn : ∀ n : Nat, n < 129 → textR ⟨a, n⟩ ≠ s) : parseR s = none := by
 unfold parseR
 simp only [hs, hp]
 rw [List.find?_eq_none.2 (fun n hmem => by simpa using hn n (List.mem_range.1 hmem))]
 rfl
theorem parseR_none1 (s : List UInt8) (hs : slashL s = none) : parseR s = none := by unfold parseR; simp only [hs]
theorem parseR_none2 (s : List UInt8) (k : Nat) (hs : slashL s = some k) (hp : parseL (s.take k) = none) : parseR s = none := by unfold parseR; simp only [hs, hp]
set_option maxHeartbeats 4000000 in
theorem rparse13_any (s : List UInt8) (hs : s.length ≤ 1000) (w : World) :
  Calls Tryz.prog 55 #[.string (bstr s)] w fun e w' => e = .returned (parsR (parseR s)) ∧ Below w.heap.size w w' := by
 have hzs := size_bstr s
 have HE := Lib.hid (fun t => bstr_beq t s)
 obtain ⟨Z, hZ⟩ : ∃ Z, Z = rngV zeroR := ⟨_, rfl⟩
 have hzZ := Lib.hid (show (Tryz.prog.info? 28).map (·.size) = some Z.toArray.size by rw [hZ, List.size_toArray, length_rngV' _ zeroA_ok]; exact size_rng)
 have hZ1 := Lib.hid (show Z.toArray.all (·.oneCell') = true by rw [hZ]; exact rngV_one' _)
 have HZ0 := Lib.hid (show parsR none = .tuple #[.agg Z.toArray, .bool false] by rw [hZ]; rfl)
 have hZl := Lib.hid (show Z.toArray.size = 18 by rw [hZ, List.size_toArray, length_rngV' _ zeroA_ok])
 have hZe := Lib.hid (hZ.trans rngV_zero)
 obtain ⟨w1, hw1⟩ : ∃ w1, w1 = w.alloc (.cells Z.toArray 28) := ⟨_, rfl⟩
 have q1 : Row w1 w.heap.size 28 Z := by rw [hw1]; exact Row.new w _ _
 have hb1 : Below w.heap.size w w1 := by rw [hw1]; exact (Below.refl _ w).alloc (Nat.le_refl _) _
 have HW := Lib.hid (show w1 = w.alloc (.cells #[Value.bool false, .int .u8 0, .int .u8 0, .int .u8 0, .int .u8 0, .int .u8 0, .int .u8 0, .int .u8 0, .int .u8 0, .int .u8 0, .int .u8 0, .int .u8 0, .int .u8 0, .int .u8 0, .int .u8 0, .int .u8 0, .int .u8 0, .int .i64 0] 28) by rw [hw1, hZe.out])
 clear hw1 hZ
 have hno := slashL_none s
 have hat := slashL_at s
 have HNO := Lib.hid hno
 have HAT := Lib.hid hat
 have HIX := Lib.hid (index_bstr s)
 have HCUT := Lib.hid (fun k => (show (bstr s).extract 0 k = bstr (s.take k) by rw [extract_bstr12 s 0 k]; simp))
 clear hno hat
 obtain ⟨S, hS⟩ : ∃ S, S = bstr s := ⟨_, rfl⟩
 rw [← hS] at hzs HIX HCUT HE ⊢
 clear hS
 go_enter Tryz.func55, Tryz.ntmps55
 go_wp2
 rw [← HW.out]
 clear HW
 go_loopw [4] (fun i wr => ∃ k : Nat, k ≤ s.length ∧ i = .int .i64 k ∧ (∀ j, j < k → s.getD j 0 ≠ 47) ∧ Row wr w.heap.size 28 Z ∧ Below w.heap.size w wr) (fun i _ => s.length - (intOf i).toNat)
 case atStart => exact ⟨0, Nat.zero_le _, rfl, fun j hj => by omega, q1, hb1⟩
 case round =>
  clear q1 hb1
  obtain ⟨k, hk, rfl, hz, q1, hb1⟩ := hrel
  by_cases hlt : k < s.length
  ·have hlt' : (k : Int) < (s.length : Int) := by omega
   have hix := HIX.out k hlt
   by_cases hx : s.getD k 0 = 47
   ·have HSL := Lib.hid (HAT.out k hlt hz hx)
    rw [hx] at hix
    have hix : ∀ w, (Instr.index 9 (.string S) (.int .i64 (k : Int))).run Tryz.prog w = .ok (.int .u8 47) w := hix
    obtain ⟨a, ok, ha, hpe, hpt, hpf⟩ := parsA_out (s.take k)
    have hpr := Lib.hid (fun w' => rparse_any (s.take k) (by rw [List.length_take]; omega) w')
    rw [hpe] at hpr
    have hcut := HCUT.out k
    have HPT := Lib.hid hpt
    have HPF := Lib.hid hpf
    obtain ⟨V, hV⟩ : ∃ V, V = adrV a := ⟨_, rfl⟩
    have hVl := Lib.hid (show V.length = 17 by rw [hV]; exact length_adrV ha)
    have hzV := Lib.hid (show (Tryz.prog.info? 26).map (·.size) = some V.length by rw [hVl.out]; exact size_adr)
    have hzV2 := Lib.hid (show (Tryz.prog.info? 26).map (·.size) = some V.toArray.size by rw [List.size_toArray, hVl.out]; exact size_adr)
    have h17 := Lib.hid (show 17 = V.toArray.size by rw [List.size_toArray, hVl.out])
    have hV1 := Lib.hid (show V.toArray.all (·.oneCell') = true by rw [hV]; exact adrV_one' _)
    have HV := Lib.hid hV
    rw [← hV] at hpr
    have hks : (k : Int) ≤ (s.length : Int) := by omega
    generalize bstr (s.take k) = T at *
    clear hV hz hx HIX HCUT HNO HAT hpt hpf hpe
    go_wp2_with (first
     | (go_at_call 93; refine (hpr.out _).mono ?_; rintro e w2 ⟨rfl, hb2⟩; have q2 := q1.later hb2 q1.lt; have hb2 := hb1.trans (hb2.mono hb1.size))
     | (have _t := hb2; refine wpList_store_row rfl 26 (.tmp 5) (.tmp 24) rfl w2.heap.size V.toArray rfl rfl 26 _ (heap_alloc_new w2 _) hzV2.out h17.out hV1.out ?_; refine Hid.out ?_))
    refine Lib.hid ?_
    generalize hw4 : World.setRow _ _ _ = w4
    obtain ⟨r4, hb4'⟩ := row_new_set (xs := V) hw4
    have q4 := q2.later hb4' q2.lt
    have hb4 := hb2.trans (hb4'.mono hb2.size)
    clear hw4 hb4' q1 q2 hix hcut hpr
    generalize w2.heap.size = g at *
    go_wp2
    go_loopw [7] (fun i wr2 => ∃ n : Nat, n ≤ 129 ∧ i = .int .i64 n ∧ (∀ j : Nat, j < n → textR ⟨a, j⟩ ≠ s) ∧ Row wr2 w.heap.size 28 Z ∧ Row wr2 g 26 V ∧ Below w.heap.size w wr2) (fun i _ => 129 - (intOf i).toNat)
    case atStart => exact ⟨0, Nat.zero_le _, rfl, fun j hj => by omega, q4, r4, hb4⟩
    case round =>
     clear q4 r4 hb4
     obtain ⟨n, hn, rfl, hz, q4, r4, hb4⟩ := hrel
     cases ok with
     | false =>
      have HX := Lib.hid (show parsR (parseR s) = .tuple #[.agg Z.toArray, .bool false] by rw [parseR_none2 s k HSL.out (HPF.out rfl), HZ0.out])
      have Q2 := Lib.hid (show wr.heap[w.heap.size]? = some (.cells Z.toArray 28 (0, 0)) from q4)
      clear hz q4 r4 HPT HPF HSL HE
      go_wp2_with (have _t := Q2; refine wpList_store_row rfl 28 (.tmp 2) (.tmp 41) rfl w.heap.size Z.toArray rfl (by rw [hZe.out]; rfl) 28 Z.toArray Q2.out hzZ.out rfl hZ1.out ?_; refine Hid.out ?_)
      refine Lib.hid ?_
      generalize hw8 : World.setRow _ _ _ = w8
      obtain ⟨r8, hg8⟩ := row_set (show Row wr w.heap.size 28 Z from Q2.out) hw8
      have hb8 := hb4.grown hg8 hb4.size (fun k h => by cases h; exact Nat.le_refl _)
      have R8 := Lib.hid (show w8.heap[w.heap.size]? = some (.cells Z.toArray 28 (0, 0)) from r8)
      clear hw8 r8 hg8 Q2
      go_wp2_with fail
      exact ⟨rfl, _, results_row_tmp rfl _ _ w.heap.size 28 Z.toArray (0, 0) _ rfl R8.out Tryz.underlying28 rfl hzZ.out _ rfl, by rw [HX.out]; rfl, hb8⟩
     | true =>
      have HP := Lib.hid (HPT.out rfl)
      by_cases hlt2 : n ≤ 128
      ·have hlt3 : (n : Int) ≤ 128 := by omega
       have hro : (⟨a, (n : Int)⟩ : Rng).Ok := ⟨ha, by show (-9223372036854775808 : Int) ≤ (n : Int); omega, by show (n : Int) ≤ 9223372036854775807; omega⟩
       have htx := Lib.hid (fun w' => rtext13_any ⟨a, n⟩ hro w')
       have heq := HE.out (textR ⟨a, n⟩)
       obtain ⟨X, hX⟩ : ∃ X, X = rngV ⟨a, n⟩ := ⟨_, rfl⟩
       have hXl := length_rngV' _ hro.a
       have hzX := Lib.hid (show (Tryz.prog.info? 28).map (·.size) = some X.length by rw [hX, hXl]; exact size_rng)
       have hzX2 := Lib.hid (show (Tryz.prog.info? 28).map (·.size) = some X.toArray.size by rw [List.size_toArray]; exact hzX.out)
       have h18 := Lib.hid (show 18 = X.toArray.size by rw [hX, List.size_toArray, hXl])
       have hX1 := Lib.hid (show X.toArray.all (·.oneCell') = true by rw [hX]; exact rngV_one' _)
       have hZX := Lib.hid (show Z.toArray.size = X.toArray.size by rw [hZl.out, hX, List.size_toArray, hXl])
       have HXe := Lib.hid (show X = V ++ [Value.int .i64 (n : Int)] by rw [hX, HV.out]; rfl)
       have HXp := Lib.hid (show parsR (some ⟨a, n⟩) = .tuple #[.agg X.toArray, .bool true] by rw [hX]; rfl)
       rw [← hX] at htx
       clear hX hXl hro HE HPT HPF
       by_cases hT : textR ⟨a, n⟩ = s
       ·have HX := Lib.hid (show parsR (parseR s) = .tuple #[.agg X.toArray, .bool true] by rw [parseR_at s k a n HSL.out HP.out hT, HXp.out])
        rw [decide_eq_true hT] at heq
        clear hT hz HSL HP HXp
        generalize textR ⟨a, n⟩ = tx at *
        generalize bstr tx = TX at *
        go_wp2_with (first
         | (with_reducible refine wpList_load_mid rfl 26 (.tmp 5) rfl g 0 rfl V _ (row_range r4) Tryz.underlying26 rfl hzV.out ?_)
         | (refine wpList_build2 rfl 28 0 1 (.tmp 33) (.tmp 34) rfl (.agg V.toArray) (.int .i64 (n : Int)) (.agg X.toArray) rfl rfl (by rw [HXe.out]; exact build_rng V (n : Int) hVl.out _) ?_)
         | (refine wpList_store_row rfl 28 (.tmp 8) (.tmp 35) rfl wr.heap.size X.toArray rfl rfl 28 _ (heap_alloc_new wr _) hzX2.out h18.out hX1.out ?_; refine Hid.out ?_))
        refine Lib.hid ?_
        generalize hw6 : World.setRow _ _ _ = w6
        obtain ⟨x6, hb6'⟩ := row_new_set (xs := X) hw6
        have q6 := q4.later hb6' q4.lt
        have r6 := r4.later hb6' r4.lt
        have hb6 := hb4.trans (hb6'.mono hb4.size)
        clear hw6 hb6' q4 r4
        generalize wr.heap.size = g2 at *
        go_wp2_with (first
         | (with_reducible refine wpList_load_mid rfl 28 (.tmp 8) rfl g2 0 rfl X _ (row_range x6) Tryz.underlying28 rfl hzX.out ?_)
         | (go_at_call 94; refine (htx.out _).mono ?_; rintro e w7 ⟨rfl, hb7⟩; have x7 := x6.later hb7 x6.lt; have q7 := q6.later hb7 q6.lt; have r7 := r6.later hb7 r6.lt; have hb7 := hb6.trans (hb7.mono hb6.size); clear x6 q6 r6; refine Hid.out ?_))
        refine Lib.hid ?_
        have Q2 := Lib.hid (show w7.heap[w.heap.size]? = some (.cells Z.toArray 28 (0, 0)) from q7)
        clear q7 r7
        go_wp2_with (first
         | (with_reducible refine wpList_load_mid rfl 28 (.tmp 8) rfl g2 0 rfl X _ (row_range x7) Tryz.underlying28 rfl hzX.out ?_)
         | (with_reducible refine wpList_store_row rfl 28 (.tmp 2) (.tmp 40) rfl w.heap.size X.toArray rfl rfl 28 Z.toArray Q2.out hzX2.out hZX.out hX1.out ?_; refine Hid.out ?_))
        refine Lib.hid ?_
        generalize hw8 : World.setRow _ _ _ = w8
        obtain ⟨r8, hg8⟩ := row_set (show Row w7 w.heap.size 28 Z from Q2.out) hw8
        have hb8 := hb7.grown hg8 hb7.size (fun k h => by cases h; exact Nat.le_refl _)
        have R8 := Lib.hid (show w8.heap[w.heap.size]? = some (.cells X.toArray 28 (0, 0)) from r8)
        clear hw8 r8 hg8 Q2
        go_wp2_with fail
        exact ⟨rfl, _, results_row_tmp rfl _ _ w.heap.size 28 X.toArray (0, 0) _ rfl R8.out Tryz.underlying28 rfl hzX2.out _ rfl, by rw [HX.out]; rfl, hb8⟩
       ·have HZ := Lib.hid (show ∀ j : Nat, j < n + 1 → textR ⟨a, j⟩ ≠ s from fun j hj => by
         by_cases e : j = n
         ·rw [e]; exact hT
         ·exact hz j (by omega))
        rw [decide_eq_false hT] at heq
        clear hT hz HSL HP HXp
        generalize textR ⟨a, n⟩ = tx at *
        generalize bstr tx = TX at *
        go_wp2_with (first
         | (with_reducible refine wpList_load_mid rfl 26 (.tmp 5) rfl g 0 rfl V _ (row_range r4) Tryz.underlying26 rfl hzV.out ?_)
         | (refine wpList_build2 rfl 28 0 1 (.tmp 33) (.tmp 34) rfl (.agg V.toArray) (.int .i64 (n : Int)) (.agg X.toArray) rfl rfl (by rw [HXe.out]; exact build_rng V (n : Int) hVl.out _) ?_)
         | (refine wpList_store_row rfl 28 (.tmp 8) (.tmp 35) rfl wr.heap.size X.toArray rfl rfl 28 _ (heap_alloc_new wr _) hzX2.out h18.out hX1.out ?_; refine Hid.out ?_))
        refine Lib.hid ?_
        generalize hw6 : World.setRow _ _ _ = w6
        obtain ⟨x6, hb6'⟩ := row_new_set (xs := X) hw6
        have q6 := q4.later hb6' q4.lt
        have r6 := r4.later hb6' r4.lt
        have hb6 := hb4.trans (hb6'.mono hb4.size)
        clear hw6 hb6' q4 r4
        generalize wr.heap.size = g2 at *
        go_wp2_with (first
         | (with_reducible refine wpList_load_mid rfl 28 (.tmp 8) rfl g2 0 rfl X _ (row_range x6) Tryz.underlying28 rfl hzX.out ?_)
         | (go_at_call 94; refine (htx.out _).mono ?_; rintro e w7 ⟨rfl, hb7⟩; have x7 := x6.later hb7 x6.lt; have q7 := q6.later hb7 q6.lt; have r7 := r6.later hb7 r6.lt; have hb7 := hb6.trans (hb7.mono hb6.size); clear x6 q6 r6; refine Hid.out ?_))
        refine Lib.hid ?_
        go_wp2
        go_roundw
        case rel => exact ⟨n + 1, by omega, by go_num, HZ.out, q7, r7, hb7⟩
        case measure => simp [intOf]; omega
      ·obtain rfl : n = 129 := by omega
       have HX := Lib.hid (show parsR (parseR s) = .tuple #[.agg Z.toArray, .bool false] by rw [parseR_no s k a HSL.out HP.out hz, HZ0.out])
       have Q2 := Lib.hid (show wr.heap[w.heap.size]? = some (.cells Z.toArray 28 (0, 0)) from q4)
       clear hz q4 r4 HPT HPF HSL HE HP
       go_wp2_with (have _t := Q2; refine wpList_store_row rfl 28 (.tmp 2) (.tmp 41) rfl w.heap.size Z.toArray rfl (by rw [hZe.out]; rfl) 28 Z.toArray Q2.out hzZ.out rfl hZ1.out ?_; refine Hid.out ?_)
       refine Lib.hid ?_
       generalize hw8 : World.setRow _ _ _ = w8
       obtain ⟨r8, hg8⟩ := row_set (show Row wr w.heap.size 28 Z from Q2.out) hw8
       have hb8 := hb4.grown hg8 hb4.size (fun k h => by cases h; exact Nat.le_refl _)
       have R8 := Lib.hid (show w8.heap[w.heap.size]? = some (.cells Z.toArray 28 (0, 0)) from r8)
       clear hw8 r8 hg8 Q2
       go_wp2_with fail
       exact ⟨rfl, _, results_row_tmp rfl _ _ w.heap.size 28 Z.toArray (0, 0) _ rfl R8.out Tryz.underlying28 rfl hzZ.out _ rfl, by rw [HX.out]; rfl, hb8⟩
   ·have hxe : (((s.getD k 0).toNat : Int) != 47) = true := by
     rw [bne_iff_ne]
     intro h
     exact hx (UInt8.toNat_inj.1 (by show (s.getD k 0).toNat = 47; omega))
    have HZ := Lib.hid (show ∀ j, j < k + 1 → s.getD j 0 ≠ 47 from fun j hj => by
     by_cases e : j = k
     ·rw [e]; exact hx
     ·exact hz j (by omega))
    generalize s.getD k 0 = x at *
    clear hz hx HIX HCUT HNO HAT
    go_wp2
    go_roundw
    case rel => exact ⟨k + 1, by omega, by go_num, HZ.out, q1, hb1⟩
    case measure => simp [intOf]; omega
  ·obtain rfl : k = s.length := by omega
   have HX := Lib.hid (show parsR (parseR s) = .tuple #[.agg Z.toArray, .bool false] by rw [parseR_none1 s (HNO.out hz), HZ0.out])
   have Q2 := Lib.hid (show wr.heap[w.heap.size]? = some (.cells Z.toArray 28 (0, 0)) from q1)
   clear hz HIX HCUT HNO HAT q1
   go_wp2_with (have _t := Q2; refine wpList_store_row rfl 28 (.tmp 2) (.tmp 42) rfl w.heap.size Z.toArray rfl (by rw [hZe.out]; rfl) 28 Z.toArray Q2.out hzZ.out rfl hZ1.out ?_; refine Hid.out ?_)
   refine Lib.hid ?_
   generalize hw8 : World.setRow _ _ _ = w8
   obtain ⟨r8, hg8⟩ := row_set (show Row wr w.heap.size 28 Z from Q2.out) hw8
   have hb8 := hb1.grown hg8 hb1.size (fun k h => by cases h; omega)
   have R8 := Lib.hid (show w8.heap[w.heap.size]? = some (.cells Z.toArray 28 (0, 0)) from r8)
   clear hw8 r8 hg8 Q2
   go_wp2_with fail
   exact ⟨rfl, _, results_row_tmp rfl _ _ w.heap.size 28 Z.toArray (0, 0) _ rfl R8.out Tryz.underlying28 rfl hzZ.out _ rfl, by rw [HX.out]; rfl, hb8⟩
theorem glue_sum (x : UInt8) (l : List (List UInt8)) (h : l ≠ []) : sumS l = (glueL x l).length + 1 := by
 induction l with
 | nil => exact absurd rfl h
 | cons p l ih =>
  cases l with
  | nil => show (p.length + 1 + 0) = p.length + 1; rfl
  | cons q l =>
   have := ih (by simp)
   show p.length + 1 + sumS (q :: l) = (p ++ x :: glueL x (q :: l)).length + 1
   rw [this, List.length_append, List.length_cons]; omega
theorem names_sum17 (s : List UInt8) (h : s.length ≤ 3999) : sumS ((namesC s).getD []) ≤ 4000 := by
 unfold namesC
 split
 ·show sumS (splitL 44 s) ≤ 4000
  have h1 := glue_sum 44 (splitL 44 s) (splitL_ne 44 s)
  rw [glueL_split 44 s] at h1
  omega
 ·decide
theorem cands_len (b : List UInt8) : (candsP b).length = 6 := rfl
def addrQ (A : Option Addr) (c j : Nat) : Option Addr × Nat := if j = 2 then (A, c) else (none, 0)
def candQ (b : List UInt8) (j : Nat) : Prd := (candsP b).getD j zeroP
theorem cand_mem (b : List UInt8) (j : Nat) (h : j < 6) : candQ b j ∈ candsP b := by
 unfold candQ
 rw [List.getD_eq_getElem?_getD, List.getElem?_eq_getElem (by rw [cands_len]; exact h)]
 exact List.getElem_mem _
theorem cand_at (b : List UInt8) (hb : b.length ≤ 600) (A : Option Addr) (c : Nat) (w : World) (hs : Sl w A c (strsV ((namesC b).getD []))) (j : Nat) (h : j < 6) :
  PrdAt w (candQ b j) (addrQ A c j).1 (addrQ A c j).2 := by
 have ho := cands_ok b _ (cand_mem b j h)
 have hn := names_sum17 b (by omega)
 have : j = 0 ∨ j = 1 ∨ j = 2 ∨ j = 3 ∨ j = 4 ∨ j = 5 := by omega
 rcases this with rfl | rfl | rfl | rfl | rfl | rfl
 ·exact ⟨ho, sl_none16 w, by show (-9223372036854775808 : Int) ≤ 1; decide, by show (1 : Int) ≤ 9223372036854775807; decide, by show (0 : Nat) ≤ 4000; omega, by show (0 : Nat) ≤ 4000; omega⟩
 ·exact ⟨ho, sl_none16 w, by show (-9223372036854775808 : Int) ≤ 2; decide, by show (2 : Int) ≤ 9223372036854775807; decide, by show (0 : Nat) ≤ 4000; omega, by show (0 : Nat) ≤ 4000; omega⟩
 ·exact ⟨ho, hs, by show (-9223372036854775808 : Int) ≤ 3; decide, by show (3 : Int) ≤ 9223372036854775807; decide, by show (0 : Nat) ≤ 4000; omega, hn⟩
 ·exact ⟨ho, sl_none16 w, by show (-9223372036854775808 : Int) ≤ 4; decide, by show (4 : Int) ≤ 9223372036854775807; decide, by show b.length ≤ 4000; omega, by show (0 : Nat) ≤ 4000; omega⟩
 ·exact ⟨ho, sl_none16 w, by show (-9223372036854775808 : Int) ≤ 5; decide, by show (5 : Int) ≤ 9223372036854775807; decide, by show (0 : Nat) ≤ 4000; omega, by show (0 : Nat) ≤ 4000; omega⟩
 ·exact ⟨ho, sl_none16 w, by show (-9223372036854775808 : Int) ≤ 6; decide, by show (6 : Int) ≤ 9223372036854775807; decide, by show (0 : Nat) ≤ 4000; omega, by show (0 : Nat) ≤ 4000; omega⟩
theorem cands_six (b : List UInt8) : candQ b 0 = ⟨1, (numberL b).getD 0, [], [], zeroR, 0⟩ ∧ candQ b 1 = ⟨2, (numberL b).getD 0, [], [], zeroR, 0⟩ ∧ candQ b 2 = ⟨3, 0, (namesC b).getD [], [], zeroR, 0⟩ ∧
  candQ b 3 = ⟨4, 0, [], b, zeroR, 0⟩ ∧ candQ b 4 = ⟨5, 0, [], [], (parseR b).getD zeroR, 0⟩ ∧ candQ b 5 = ⟨6, 0, [], [], zeroR, (parseC b).getD 0⟩ := ⟨rfl, rfl, rfl, rfl, rfl, rfl⟩
theorem parsR_out (o : Option Rng) : parsR o = .tuple #[.agg (rngV (o.getD zeroR)).toArray, .bool o.isSome] := by cases o <;> rfl
theorem find_at {α : Type} (f : α → Bool) (z : α) : ∀ (l : List α) (j : Nat), j < l.length → (∀ i < j, f (l.getD i z) = false) → f (l.getD j z) = true → l.find? f = some (l.getD j z)
 | [], j, h, _, _ => absurd h (by simp)
 | a :: l, 0, _, _, h => by
  have h : f a = true := h
  rw [List.find?_cons_of_pos h]; rfl
 | a :: l, j + 1, h, hn, ht => by
  have h0 : f a = false := hn 0 (by omega)
  rw [List.find?_cons_of_neg (by rw [h0]; decide)]
  exact find_at f z l j (by simpa using h) (fun i hi => hn (i + 1) (by omega)) ht
theorem find_no {α : Type} (f : α → Bool) (z : α) (l : List α) (h : ∀ i < l.length, f (l.getD i z) = false) : l.find? f = none := by
 rw [List.find?_eq_none]
 intro a ha
 obtain ⟨i, hi, rfl⟩ := List.mem_iff_getElem.1 ha
 have := h i hi
 rw [List.getD_eq_getElem?_getD, List.getElem?_eq_getElem hi] at this
 have this : f l[i] = false := this
 rw [this]; decide
theorem parse_hit (s : List UInt8) (k j : Nat) (hl : s.length ≤ 512) (hb : blankL s = some k) (hj : j < 6) (hn : ∀ i < j, textP (candQ (s.drop (k + 1)) i) ≠ s) (ht : textP (candQ (s.drop (k + 1)) j) = s) : parseP s = some (candQ (s.drop (k + 1)) j) := by
 unfold parseP
 rw [if_neg (by omega), hb]
 exact find_at _ zeroP _ j hj (fun i hi => decide_eq_false (hn i hi)) (decide_eq_true ht)
theorem parse_miss (s : List UInt8) (k : Nat) (hl : s.length ≤ 512) (hb : blankL s = some k) (hn : ∀ i < 6, textP (candQ (s.drop (k + 1)) i) ≠ s) : parseP s = none := by
 unfold parseP
 rw [if_neg (by omega), hb]
 exact find_no _ zeroP _ fun i hi => decide_eq_false (hn i hi)
theorem parse_long (s : List UInt8) (hl : 512 < s.length) : parseP s = none := by unfold parseP; rw [if_pos hl]
theorem parse_whole (s : List UInt8) (hl : s.length ≤ 512) (hb : blankL s = none) : parseP s = none := by unfold parseP; rw [if_neg (by omega), hb]
def GavePrd (o : Option Prd) (w : World) (e : Ending) (w' : World) : Prop :=
 ∃ (A : Option Addr) (c : Nat), e = .returned (.tuple #[.agg (prdV (o.getD zeroP) A c).toArray, .bool o.isSome]) ∧ PrdAt w' (o.getD zeroP) A c ∧ Below w.heap.size w w'
theorem zero_at (w : World) : PrdAt w zeroP none 0 := ⟨zeroP_ok, sl_none16 w, by decide, by decide, by decide, by decide⟩
theorem PrdAt.apart {w w' : World} {p : Prd} {A : Option Addr} {c g : Nat} (h : PrdAt w p A c) (hg : w.grownBy w' (some g)) (hne : ∀ a, A = some a → a.block ≠ g) : PrdAt w' p A c :=
 ⟨h.ok, h.names.apart hg (fun _ => hne), h.lo, h.hi, h.path, h.sum⟩
theorem addrQ_apart (A : Option Addr) (c j g : Nat) (h : ∀ a, A = some a → a.block ≠ g) : ∀ a, (addrQ A c j).1 = some a → a.block ≠ g := by
 intro a ha
 unfold addrQ at ha
 split at ha
 ·exact h a ha
 ·cases ha
def GaveRowF (o : Option (List (List UInt8))) (w : World) (e : Ending) (w' : World) : Prop :=
 ∃ (A : Option Addr) (c : Nat), e = .returned (.tuple #[.slice A (o.getD []).length c, .bool o.isSome]) ∧ Sl w' A c (strsV (o.getD [])) ∧ (∀ g, g < w.heap.size → ∀ a, A = some a → a.block ≠ g) ∧ Below w.heap.size w w'
set_option maxHeartbeats 2000000 in
theorem rnames17_own (s : List UInt8) (hs : s.length ≤ 4000) (w : World) : Calls Tryz.prog 54 #[.string (bstr s)] w (GaveRowF (namesC s) w) := by
 have hz := size_bstr s
 have hsp := Lib.hid (rsplit16_any s 44 hs w)
 have hlen := splitL_len 44 s
 have hri := Lib.hid (fun A c w' => rrise_any (splitL 44 s) (by omega) (fun p hp => by have := splitL_piece 44 s p hp; omega) A c w')
 have HV := Lib.hid (show namesC s = if riseL (splitL 44 s) = true then some (splitL 44 s) else none from rfl)
 generalize namesC s = V at *
 generalize splitL 44 s = ps at *
 cases hr : riseL ps with
 | true =>
  have HW := Lib.hid (HV.out.trans (if_pos hr))
  rw [hr] at hri
  clear HV hr
  go_enter Tryz.func54, Tryz.ntmps54
  go_wp2_with (first
   | (go_at_call 91; refine hsp.out.mono ?_; rintro e w1 ⟨v, rfl, hown, hb1⟩; obtain ⟨A, c, rfl, hpl, hsl⟩ := Sl.of_own hown; have hap := Lib.hid (fun g (hg : g < w.heap.size) a (ha : A = some a) => own_apart hown hg a ha); clear hpl)
   | (go_at_call 92; refine (hri.out A c w1 hsl).mono ?_; rintro e w' ⟨rfl, rfl⟩))
  go_ret2
  exact ⟨A, c, by rw [HW.out]; rfl, by rw [HW.out]; exact hsl, hap.out, hb1⟩
 | false =>
  have HW := Lib.hid (HV.out.trans (if_neg (by rw [hr]; decide)))
  rw [hr] at hri
  clear HV hr
  go_enter Tryz.func54, Tryz.ntmps54
  go_wp2_with (first
   | (go_at_call 91; refine hsp.out.mono ?_; rintro e w1 ⟨v, rfl, hown, hb1⟩; obtain ⟨A, c, rfl, hpl, hsl⟩ := Sl.of_own hown; clear hpl)
   | (go_at_call 92; refine (hri.out A c w1 hsl).mono ?_; rintro e w' ⟨rfl, rfl⟩))
  go_ret2
  exact ⟨none, 0, by rw [HW.out]; rfl, by rw [HW.out]; exact sl_none16 _, fun g _ a ha => (by cases ha), hb1⟩
theorem normL_head (s : List UInt8) (h : s.getD 0 0 ≠ 47) : normL s = none := by
 unfold normL
 split
 ·exact absurd rfl h
 ·rfl
theorem normL_none (r : List UInt8) (h : goN [] (splitL 47 r) = none) : normL (47 :: r) = none := by
 show (match goN [] (splitL 47 r) with
  | none => none
  | some l => if (joinP l).length ≤ 256 then some (joinP l) else none) = none
 rw [h]
theorem normL_some (r : List UInt8) (l : List (List UInt8)) (h : goN [] (splitL 47 r) = some l) : normL (47 :: r) = if (joinP l).length ≤ 256 then some (joinP l) else none := by
 show (match goN [] (splitL 47 r) with
  | none => none
  | some l => if (joinP l).length ≤ 256 then some (joinP l) else none) = _
 rw [h]
theorem goN_at (l ps : List (List UInt8)) (k : Nat) (h : k < ps.length) : goN l (ps.drop k) = match alongL l (ps.getD k []) with
  | none => none
  | some m => goN m (ps.drop (k + 1)) := by
 rw [List.drop_eq_getElem_cons h, goN_along, List.getD_eq_getElem?_getD, List.getElem?_eq_getElem h]; rfl
theorem flatP_le (l : List (List UInt8)) (h : ∀ w ∈ l, w.length ≤ 64) : (flatP l).length ≤ 65 * l.length := by
 unfold flatP
 induction l with
 | nil => exact Nat.le_refl _
 | cons w l ih =>
  have := ih (fun v hv => h v (List.mem_cons_of_mem _ hv))
  have := h w (List.mem_cons_self ..)
  rw [List.flatMap_cons, List.length_append, List.length_cons, List.length_cons]; omega
theorem flatP_take (l : List (List UInt8)) (k : Nat) (h : k < l.length) : flatP (l.take (k + 1)) = flatP (l.take k) ++ (47 :: l.getD k []) := by
 rw [List.take_add_one, flatP_app]
 congr 1
 rw [List.getD_eq_getElem?_getD, List.getElem?_eq_getElem h]
 exact flatP_one _
theorem cut_strs (A : Option Addr) (c n : Nat) (hA : A ≠ none) (hc : n + 1 ≤ c) (w : World) : (Instr.sliceAt 23 (.slice A (n + 1) c) none (some (.int .i64 (n : Int))) none).run Tryz.prog w = .ok (.slice A n c) w := by
 cases A with
 | none => exact absurd rfl hA
 | some a =>
  have h2 : (n : Int) ≤ (c : Int) := by omega
  clear hA hc
  go_simp
theorem sl_empty (w : World) (A : Addr) (d : Nat) : Sl w (some A) d (strsV []) := ⟨.inl (by simp [strsV]), by simp [strsV], fun h => by cases h⟩
set_option maxHeartbeats 4000000 in
theorem rnormal_any (s : List UInt8) (hs : s.length ≤ 1000) (w : World) : Calls Tryz.prog 33 #[.string (bstr s)] w fun e w' => e = .returned (.tuple #[.string (bstr ((normL s).getD [])), .bool (normL s).isSome]) ∧ Below w.heap.size w w' := by
 have hz := size_bstr s
 obtain ⟨V, hV⟩ : ∃ V, V = normL s := ⟨_, rfl⟩
 have HV := Lib.hid hV
 rw [← hV]
 clear hV
 by_cases h3 : s = []
 ·have HW := Lib.hid (show V = none by rw [HV.out, h3]; rfl)
  have a2 : ((s.length : Int) == 0) = true := by rw [h3]; rfl
  clear HV h3
  go_enter Tryz.func33, Tryz.ntmps33
  go_wp2
  go_ret2
  exact ⟨by rw [HW.out]; rfl, Below.refl _ _⟩
 have hpos : 0 < s.length := List.length_pos_iff.2 h3
 have a2 : ((s.length : Int) == 0) = false := by rw [beq_eq_false_iff_ne]; omega
 have hix : ∀ w', (Instr.index 9 (.string (bstr s)) (.int .i64 0)).run Tryz.prog w' = .ok (.int .u8 ((s.getD 0 0).toNat : Int)) w' := fun w' => index_bstr s 0 hpos w'
 by_cases h4 : s.getD 0 0 = 47
 ·obtain ⟨r, rfl⟩ : ∃ r, s = 47 :: r := by
   cases s with
   | nil => exact absurd rfl h3
   | cons c r => exact ⟨r, by rw [show c = 47 from h4]⟩
  rw [h4] at hix
  have a4 : ((47 : UInt8).toNat : Int) = 47 := rfl
  rw [a4] at hix
  have hex := tail_bstr 47 r (r.length + 1) rfl
  rw [List.length_cons] at hz hs
  have a3 : ((r.length : Int) + 1 == 0) = false := by rw [beq_eq_false_iff_ne]; omega
  have hcp := Lib.hid (fun w' => rpieces_any r (by omega) w')
  have HM := Lib.hid (fun s (h : s ∈ splitL 47 r) => (by have := splitL_piece 47 r s h; omega : s.length ≤ 1000))
  have hlen := splitL_len 47 r
  have HN1 := Lib.hid (fun h => HV.out.trans (normL_none r h))
  have HN2 := Lib.hid (fun l h => HV.out.trans (normL_some r l h))
  generalize bstr (47 :: r) = P at *
  clear HV h3 h4 hpos a4 a2
  generalize splitL 47 r = ps at *
  go_enter Tryz.func33, Tryz.ntmps33
  go_wp2_with (go_at_call 66; refine (hcp.out _).mono ?_; rintro e w1 ⟨v, rfl, hown, hb1⟩; obtain ⟨A, c, rfl, hpl, hsl⟩ := Sl.of_own hown; clear hpl)
  have hB1 : Below w.heap.size w w1 := ((Below.refl _ w).alloc (Nat.le_refl _) _).trans (hb1.mono (by rw [World.size_alloc]; omega))
  clear hb1 hown hcp hex hix a3
  go_loopw [4, 23] (fun v i wr => ∃ (k : Nat) (l : List (List UInt8)) (B : Option Addr) (d : Nat), k ≤ ps.length ∧ i = .int .i64 k ∧ v = .slice B l.length d ∧ Sl wr B d (strsV l) ∧ l.length ≤ k ∧ (∀ x ∈ l, x.length ≤ 64) ∧ goN l (ps.drop k) = goN [] ps ∧ Below w1.heap.size w1 wr) (fun _ i _ => ps.length - (intOf i).toNat)
  case atStart => exact ⟨0, [], _, _, by omega, rfl, rfl, sl_empty _ _ _, by simp, by simp, rfl, Below.refl _ _⟩
  case round =>
   obtain ⟨k, l, B, d, hk, rfl, rfl, hsv, hlk, hl64, hgo, hbr⟩ := hrel
   by_cases hlt : k < ps.length
   ·have hlt' : (k : Int) < (ps.length : Int) := by omega
    obtain ⟨b, o, rfl, -, -⟩ := hsl.rd.get (i := k) (by rw [length_strsV]; exact hlt)
    have hixs := index_strs (some ⟨b, o, none⟩) b o ps.length c k rfl hlt
    have hce := strs_cell (hsl.later (Nat.le_refl _) hbr) k hlt
    have HG := Lib.hid (hgo.symm.trans (goN_at l ps k hlt))
    have hx1 := HM.out (ps.getD k []) (by rw [List.getD_eq_getElem?_getD, List.getElem?_eq_getElem hlt]; exact List.getElem_mem hlt)
    have HL64 := Lib.hid hl64
    generalize ps.getD k [] = x at *
    have e0 : (bstr x).toList.isEmpty = decide (x = []) := by rw [bstr_toList]; cases x <;> rfl
    have e1 := bstr_is x [46]
    have e2 := bstr_is x [46, 46]
    clear hgo hl64
    by_cases c0 : x = []
    ·have HN := Lib.hid (show goN l (ps.drop (k + 1)) = goN [] ps by rw [HG.out]; unfold alongL; rw [if_pos (.inl c0)])
     rw [decide_eq_true c0] at e0
     clear HG c0 e1 e2
     go_wp2
     go_roundw
     case rel => exact ⟨k + 1, l, B, d, by omega, by go_num, rfl, hsv, by omega, HL64.out, HN.out, hbr⟩
     case measure => simp [intOf]; omega
    rw [decide_eq_false c0] at e0
    by_cases c1 : x = [46]
    ·have HN := Lib.hid (show goN l (ps.drop (k + 1)) = goN [] ps by rw [HG.out]; unfold alongL; rw [if_pos (.inr c1)])
     rw [decide_eq_true c1] at e1
     clear HG c0 c1 e2
     go_wp2
     go_roundw
     case rel => exact ⟨k + 1, l, B, d, by omega, by go_num, rfl, hsv, by omega, HL64.out, HN.out, hbr⟩
     case measure => simp [intOf]; omega
    rw [decide_eq_false c1] at e1
    have c01 : ¬ (x = [] ∨ x = [46]) := by rintro (h | h); exact c0 h; exact c1 h
    by_cases c2 : x = [46, 46]
    ·rw [decide_eq_true c2] at e2
     by_cases c3 : l = []
     ·have HN := Lib.hid (show V = none from HN1.out (by rw [HG.out]; unfold alongL; rw [if_neg c01, if_pos c2, if_pos c3]))
      have a5 : ((l.length : Int) == 0) = true := by rw [c3]; rfl
      clear HG c0 c1 c01 c2 c3
      go_wp2
      go_ret2
      exact ⟨by rw [HN.out]; rfl, hB1.trans (hbr.mono hB1.size)⟩
     ·have HN := Lib.hid (show goN l.dropLast (ps.drop (k + 1)) = goN [] ps by rw [HG.out]; unfold alongL; rw [if_neg c01, if_pos c2, if_neg c3])
      obtain ⟨n, hn⟩ : ∃ n, l.length = n + 1 := ⟨l.length - 1, by have := List.length_pos_iff.2 c3; omega⟩
      have hroom := hsv.room
      rw [length_strsV, hn] at hroom
      have hBn : B ≠ none := by
       rintro rfl
       have := hsv.bare rfl
       omega
      have hct := cut_strs B d n hBn hroom
      have a5 : ((n : Int) + 1 == 0) = false := by rw [beq_eq_false_iff_ne]; omega
      have hsv2 : Sl wr B d (strsV l.dropLast) := by rw [List.dropLast_eq_take, strsV_take]; exact hsv.take
      have hdl : n = l.dropLast.length := by rw [List.length_dropLast, hn]; rfl
      have HD := Lib.hid hdl
      have H64' := Lib.hid (fun x (h : x ∈ l.dropLast) => HL64.out x (List.dropLast_subset l h))
      rw [hn]
      clear HG c0 c1 c01 c2 c3 hdl hroom hBn
      go_wp2
      go_roundw
      case rel => exact ⟨k + 1, l.dropLast, B, d, by omega, by go_num, by rw [← HD.out], hsv2, by rw [← HD.out]; omega, H64'.out, HN.out, hbr⟩
      case measure => simp [intOf]; omega
    ·rw [decide_eq_false c2] at e2
     have hnm := rname_any x (by omega) wr
     cases c3 : nameL x with
     | false =>
      have HN := Lib.hid (show V = none from HN1.out (by rw [HG.out]; unfold alongL; rw [if_neg c01, if_neg c2, c3]; rfl))
      rw [c3] at hnm
      have HC := Lib.hid hnm
      clear HG c0 c1 c01 c2 c3 hnm
      go_wp2_with (go_at_call 67; refine HC.out.mono ?_; rintro e w' ⟨rfl, rfl⟩)
      go_ret2
      exact ⟨by rw [HN.out]; rfl, hB1.trans (hbr.mono hB1.size)⟩
     | true =>
      have HN := Lib.hid (show goN (l ++ [x]) (ps.drop (k + 1)) = goN [] ps by rw [HG.out]; unfold alongL; rw [if_neg c01, if_neg c2, if_pos c3])
      have hx64 := nameL_len x c3
      rw [c3] at hnm
      have HC := Lib.hid hnm
      clear HG c0 c1 c01 c2 c3 hnm
      obtain ⟨i0, hi, hz0, hz1, hz2⟩ := info_parts infoStr
      have hown0 : (wr.alloc (.cells #[] 9)).ownsRow w1.heap.size 9 1 (.slice (some ⟨wr.heap.size, 0, none⟩) 0 0) 0 (strsV []) := World.ownsRow_lit wr (e := 9) (size := 1) #[] 0 hbr.size (by unfold maxLen; omega) rfl
      have hbe : Below w1.heap.size w1 (wr.alloc (.cells #[] 9)) := hbr.alloc hbr.size _
      have hsv0 : Sl (wr.alloc (.cells #[] 9)) B d (strsV l) := hsv.later (Nat.le_refl _) ((Below.refl _ wr).alloc (Nat.le_refl _) _)
      have n1 : 0 + l.length ≤ maxLen := by unfold maxLen; omega
      have n2 : (0 + l.length) * 16 ≤ 140737488355328 := by omega
      have n3 : 0 + l.length + 1 ≤ maxLen := by unfold maxLen; omega
      have n4 : (0 + l.length + 1) * 16 ≤ 140737488355328 := by omega
      have tok := trivial
      go_wp2_with (first
       | (go_at_call 67; refine HC.out.mono ?_; rintro e w' ⟨rfl, rfl⟩)
       | (at_builtin; have _t := tok; refine wpList_append_sl rfl (.tmp 46) (.tmp 47) 23 rfl w1.heap.size 9 i0 _ 16 Tryz.underlying23 hi hz0 hz1 hz2 rfl _ 0 (strsV []) rfl hown0 B l.length d (strsV l) rfl (length_strsV l).symm hsv0 (strsV_one _) n1 n2 hbe.size ?_; intro v3 w3 hown3 hg3; have hb3 := hbe.grown hg3 hbe.size (fun j hj => (hown0.lt j hj).1); rw [← strsV_append, List.nil_append] at hown3; have hslp : Sl (w3.alloc (.cells #[.string (bstr x)] 9)) (some ⟨w3.heap.size, 0, none⟩) 1 (strsV [x]) := sl_made (strsV [x]) rfl 1 rfl; have howna := hown3.alloc (.cells #[.string (bstr x)] 9); have hbe2 := hb3.alloc hb3.size (.cells #[.string (bstr x)] 9); clear tok)
       | (at_builtin; refine wpList_append_sl rfl (.tmp 48) (.tmp 50) 23 rfl w1.heap.size 9 i0 _ 16 Tryz.underlying23 hi hz0 hz1 hz2 rfl _ (0 + l.length) (strsV l) rfl howna (some ⟨w3.heap.size, 0, none⟩) 1 1 (strsV [x]) rfl rfl hslp (strsV_one _) n3 n4 hbe2.size ?_; intro v4 w4 hown4 hg4; have hb4 := hbe2.grown hg4 hbe2.size (fun j hj => (howna.lt j hj).1); rw [← strsV_append] at hown4; obtain ⟨B4, d4, rfl, -, hsv4⟩ := Sl.of_own hown4))
      go_roundw
      case rel => exact ⟨k + 1, l ++ [x], B4, d4, by omega, by go_num, by rw [List.length_append]; rfl, hsv4, by rw [List.length_append]; simp; omega, fun y hy => by rcases List.mem_append.1 hy with h | h; exact HL64.out y h; rw [List.mem_singleton.1 h]; exact hx64, HN.out, hb4⟩
      case measure => simp [intOf]; omega
   ·obtain rfl : k = ps.length := by omega
    have HF := Lib.hid (show V = if (joinP l).length ≤ 256 then some (joinP l) else none from HN2.out l (by rw [← hgo, List.drop_length]; rfl))
    have HL64 := Lib.hid hl64
    have hBw := hB1.trans (hbr.mono hB1.size)
    clear hgo hl64 HN1 HN2 hsl HM hbr
    go_wp2
    go_loop [7, 55] (fun v i => ∃ j : Nat, j ≤ l.length ∧ i = .int .i64 j ∧ v = .string (bstr (flatP (l.take j)))) (fun _ i => l.length - (intOf i).toNat)
    case atStart => exact ⟨0, by omega, rfl, rfl⟩
    case round =>
     obtain ⟨j, hj, rfl, rfl⟩ := hrel
     by_cases hjl : j < l.length
     ·have hjl' : (j : Int) < (l.length : Int) := by omega
      obtain ⟨b, o, rfl, -, -⟩ := hsv.rd.get (i := j) (by rw [length_strsV]; exact hjl)
      have hixs := index_strs (some ⟨b, o, none⟩) b o l.length d j rfl hjl
      have hce := strs_cell hsv j hjl
      have HT := Lib.hid (flatP_take l j hjl)
      have hx64 := HL64.out (l.getD j []) (by rw [List.getD_eq_getElem?_getD, List.getElem?_eq_getElem hjl]; exact List.getElem_mem hjl)
      have hfl := flatP_le (l.take j) (fun y hy => HL64.out y (List.mem_of_mem_take hy))
      rw [List.length_take] at hfl
      generalize l.getD j [] = x at *
      generalize flatP (l.take j) = F at *
      have hzx := size_bstr x
      have hzF := size_bstr F
      have hc1 : ({ data := #[47] } : ByteArray) ++ bstr x = bstr (47 :: x) := bstr_cat12 [47] x
      have hc2 : bstr F ++ bstr (47 :: x) = bstr (F ++ 47 :: x) := bstr_cat12 F (47 :: x)
      have hz1 : (bstr (47 :: x)).size = x.length + 1 := size_bstr _
      go_wp2
      go_round
      case rel => exact ⟨j + 1, by omega, by go_num, by rw [HT.out]⟩
      case measure => simp [intOf]; omega
     ·obtain rfl : j = l.length := by omega
      rw [List.take_length]
      by_cases he : l = []
      ·have HX := Lib.hid (show V = some [47] by rw [HF.out, he]; rfl)
       have e0 : (bstr (flatP l)).toList.isEmpty = true := by rw [he, bstr_toList]; rfl
       have hlt' : ¬ ((l.length : Int) < (l.length : Int)) := by omega
       generalize bstr (flatP l) = Q at *
       clear HF he
       go_wp2
       go_ret2
       exact ⟨by rw [HX.out]; rfl, hBw⟩
      ·have hfe : flatP l ≠ [] := fun h => he ((flatP_eq_nil l).1 h)
       have e0 : (bstr (flatP l)).toList.isEmpty = false := by
        rw [bstr_toList]
        cases hq : flatP l with
        | nil => exact absurd hq hfe
        | cons _ _ => rfl
       have hj2 : joinP l = flatP l := by rw [joinP_flat, if_neg he]
       have hzF := size_bstr (flatP l)
       rw [hj2] at HF
       generalize flatP l = F at *
       by_cases hl2 : F.length ≤ 256
       ·have HX := Lib.hid (show V = some F by rw [HF.out, if_pos hl2])
        have hl3 : (F.length : Int) ≤ 256 := by omega
        clear HF he hl2 hfe hj2
        go_wp2
        go_ret2
        exact ⟨by rw [HX.out]; rfl, hBw⟩
       ·have HX := Lib.hid (show V = none by rw [HF.out, if_neg hl2])
        have hl3 : (256 : Int) < (F.length : Int) := by omega
        clear HF he hl2 hfe hj2
        go_wp2
        go_ret2
        exact ⟨by rw [HX.out]; rfl, hBw⟩
 ·have HW := Lib.hid (show V = none by rw [HV.out]; exact normL_head s h4)
  have a3 : (((s.getD 0 0).toNat : Int) == 47) = false := by
   rw [beq_eq_false_iff_ne]
   intro h
   exact h4 (UInt8.toNat_inj.1 (by rw [show (47 : UInt8).toNat = 47 from rfl]; omega))
  generalize s.getD 0 0 = y at *
  clear HV h3 h4
  go_enter Tryz.func33, Tryz.ntmps33
  go_wp2
  go_ret2
  exact ⟨by rw [HW.out]; rfl, Below.refl _ _⟩
structure Req where
 op : List UInt8
 path : List UInt8
 src : Adr
 cost : Nat
structure Req.Ok (r : Req) : Prop where
 src : r.src.Ok
 cost : r.cost < 2 ^ 64
 op : r.op.length ≤ 1000
 path : r.path.length ≤ 1000
def reqV (r : Req) : List Value := [.string (bstr r.op), .string (bstr r.path)] ++ (adrV r.src ++ [.float .f64 r.cost])
def pathHolds (top : List UInt8) (o : Option (List UInt8)) : Bool := o.isSome && underL top (o.getD [])
def holdsL (p : Prd) (r : Req) (t : Nat) : Bool :=
 if textP p = [] then false
 else if p.kind = 1 then decide (t < p.time)
 else if p.kind = 2 then decide (p.time ≤ t)
 else if p.kind = 3 then decide (r.op ∈ p.names)
 else if p.kind = 4 then pathHolds p.path (normL r.path)
 else if p.kind = 5 then hasR p.net r.src
 else atMostC r.cost p.cost
def holdsT (s : List UInt8) (r : Req) (t : Nat) : Bool := (parseP s).isSome && holdsL ((parseP s).getD zeroP) r t
def holdsA (l : List (List UInt8)) (r : Req) (t : Nat) : Bool := l.all fun s => holdsT s r t
theorem length_reqV (r : Req) (h : r.src.Ok) : (reqV r).length = 20 := by
 unfold reqV
 rw [List.length_append, List.length_append, length_adrV h]; rfl
theorem size_req : (Tryz.prog.info? 33).map (·.size) = some 20 := by kernel_rfl
theorem reqV_one (r : Req) : (reqV r).toArray.all (·.oneCell') = true := by
 have h := adrV_one' r.src
 rw [List.all_toArray] at h ⊢
 unfold reqV
 rw [List.all_append, List.all_append, h]; rfl
theorem path_right (p : Prd) (h : textP p ≠ []) (hk : p.kind = 4) : rightL p.path = true := by
 obtain ⟨h2, -, -, -⟩ := textP_ne p h
 unfold wordsP at h2
 rw [if_neg (by rw [hk]; decide), if_neg (by rw [hk]; decide), if_neg (by rw [hk]; decide)] at h2
 cases hr : rightL p.path with
 | true => rfl
 | false =>
  rw [if_neg (fun h => by rw [hr] at h; cases h.2), if_neg (by rw [hk]; decide), if_neg (by rw [hk]; decide)] at h2
  exact absurd rfl h2
theorem right_len (p : List UInt8) (h : rightL p = true) : p.length ≤ 256 := by
 unfold rightL at h
 split at h
 ·rename_i r
  rw [Bool.or_eq_true, Bool.and_eq_true, decide_eq_true_iff, decide_eq_true_iff] at h
  rcases h with h | ⟨h, -⟩
  ·rw [h]; decide
  ·rw [List.length_cons]; exact h
 ·cases h
theorem norm_len (s p : List UInt8) (h : normL s = some p) : p.length ≤ 256 := right_len p (normL_right s p h).1
theorem prdV_one (p : Prd) (A : Option Addr) (c : Nat) : (prdV p A c).toArray.all (·.oneCell') = true := by
 have h := rngV_one' p.net
 rw [List.all_toArray] at h ⊢
 unfold prdV
 rw [List.all_append, List.all_append, h]; rfl
theorem prd_zero : prdV zeroP none 0 = [Value.int .i64 0, .int .u64 0, .slice none 0 0, .string { data := #[] }, .bool false, .int .u8 0, .int .u8 0, .int .u8 0, .int .u8 0, .int .u8 0, .int .u8 0, .int .u8 0, .int .u8 0, .int .u8 0, .int .u8 0, .int .u8 0, .int .u8 0, .int .u8 0, .int .u8 0, .int .u8 0, .int .u8 0, .int .i64 0, .float .f64 0] := rfl
theorem index_prd (A : Option Addr) (b o n c k : Nat) (hA : A = some ⟨b, o, none⟩) (hk : k < n) (w : World) :
  (Instr.indexAt 44 (.slice A n c) (.int .i64 k)).run Tryz.prog w = .ok (.pointer (some ⟨b, o + k * 23, none⟩)) w := by
 subst hA
 have h : (k : Int) < (n : Int) := by omega
 go_simp
theorem wpList_sliceN {P : Program} {w w' : World} {ops : Array Oper} {rest : List Oper} {o : Oper} {a : Act} {Q : Exit → Act → World → Prop} (hgd : o.guard = none) (ty : TypeId) (n : Nat) (parts : List (Nat × Operand)) (ho : o.op = .buildSlice ty n parts.toArray) (vals : List (Nat × Value)) (hx : parts.map (fun p => (p.1, a.eval p.2)) = vals) (v : Value)
  (hv : (Instr.buildSlice ty n vals.toArray).run P w = .ok v w') (h : wpList P ops Q rest (a.put o.dst v) w') : wpList P ops Q (o :: rest) a w := by
 refine wpList_plain hgd fun _ hK => ?_
 subst hx
 unfold Oper.wp execOp
 simp only [ho, Sem.run_bind, Sem.run_pure, Result.andThen_ok, List.map_toArray, hv]
 exact hK _ _ h
theorem build_1 (n : Nat) (k : Int) (w : World) : (Instr.build 31 #[(0, .int .i64 k), (1, .int .u64 n)]).run Tryz.prog w = .ok (.agg (prdV ⟨k, n, [], [], zeroR, 0⟩ none 0).toArray) w := by
 go_simp
 rfl
theorem build_3 (A : Option Addr) (l : List (List UInt8)) (c : Nat) (w : World) : (Instr.build 31 #[(0, .int .i64 3), (2, .slice A l.length c)]).run Tryz.prog w = .ok (.agg (prdV ⟨3, 0, l, [], zeroR, 0⟩ A c).toArray) w := by
 go_simp
 rfl
theorem build_4 (b : List UInt8) (w : World) : (Instr.build 31 #[(0, .int .i64 4), (3, .string (bstr b))]).run Tryz.prog w = .ok (.agg (prdV ⟨4, 0, [], b, zeroR, 0⟩ none 0).toArray) w := by
 go_simp
 rfl
theorem build_6 (c : Nat) (w : World) : (Instr.build 31 #[(0, .int .i64 6), (5, .float .f64 c)]).run Tryz.prog w = .ok (.agg (prdV ⟨6, 0, [], [], zeroR, c⟩ none 0).toArray) w := by
 go_simp
 rfl
theorem fold_off (V : List Value) (off : Nat) : ∀ (k : Nat) (Z : Array Value), (V.zipIdx k).foldl (fun cs x => cs.setIfInBounds (off + x.2) x.1) Z = (V.zipIdx (off + k)).foldl (fun cs x => cs.setIfInBounds x.2 x.1) Z := by
 induction V with
 | nil => intro k Z; rfl
 | cons v V ih =>
  intro k Z
  rw [List.zipIdx_cons, List.zipIdx_cons, List.foldl_cons, List.foldl_cons]
  exact ih (k + 1) _
set_option maxHeartbeats 2000000 in
theorem build_5 (V : List Value) (h : V.length = 18) (w : World) : (Instr.build 31 #[(0, .int .i64 5), (4, .agg V.toArray)]).run Tryz.prog w = .ok (.agg ([Value.int .i64 5, .int .u64 0, .slice none 0 0, .string { data := #[] }] ++ (V ++ [Value.float .f64 0])).toArray) w := by
 have hz := set_zip13 V 4 [Value.int .i64 5, .int .u64 0, .slice none 0 0, .string { data := #[] }, .bool false, .int .u8 0, .int .u8 0, .int .u8 0, .int .u8 0, .int .u8 0, .int .u8 0, .int .u8 0, .int .u8 0, .int .u8 0, .int .u8 0, .int .u8 0, .int .u8 0, .int .u8 0, .int .u8 0, .int .u8 0, .int .u8 0, .int .i64 0, .float .f64 0] (by rw [h]; decide)
 rw [h] at hz
 have e : ([Value.int .i64 5, .int .u64 0, .slice none 0 0, .string { data := #[] }, .bool false, .int .u8 0, .int .u8 0, .int .u8 0, .int .u8 0, .int .u8 0, .int .u8 0, .int .u8 0, .int .u8 0, .int .u8 0, .int .u8 0, .int .u8 0, .int .u8 0, .int .u8 0, .int .u8 0, .int .u8 0, .int .u8 0, .int .i64 0, .float .f64 0].take 4 ++ V ++ [Value.int .i64 5, .int .u64 0, .slice none 0 0, .string { data := #[] }, .bool false, .int .u8 0, .int .u8 0, .int .u8 0, .int .u8 0, .int .u8 0, .int .u8 0, .int .u8 0, .int .u8 0, .int .u8 0, .int .u8 0, .int .u8 0, .int .u8 0, .int .u8 0, .int .u8 0, .int .u8 0, .int .u8 0, .int .i64 0, .float .f64 0].drop (4 + 18)) = [Value.int .i64 5, .int .u64 0, .slice none 0 0, .string { data := #[] }] ++ (V ++ [Value.float .f64 0]) := by
  show ([Value.int .i64 5, .int .u64 0, .slice none 0 0, .string { data := #[] }] ++ V) ++ [Value.float .f64 0] = _
  rw [List.append_assoc]
 rw [e, show (4 : Nat) = 4 + 0 from rfl, ← fold_off] at hz
 clear e
 go_simp
theorem six_of (P : Nat → Prop) (h0 : P 0) (h1 : P 1) (h2 : P 2) (h3 : P 3) (h4 : P 4) (h5 : P 5) : ∀ j, j < 6 → P j := by
 intro j h
 have : j = 0 ∨ j = 1 ∨ j = 2 ∨ j = 3 ∨ j = 4 ∨ j = 5 := by omega
 rcases this with rfl | rfl | rfl | rfl | rfl | rfl <;> assumption
theorem slice_six (X : Nat → List Value) (h : ∀ j, j < 6 → (X j).length = 23) : ∃ R : List Value, R.length = 138 ∧ (∀ w, (Instr.buildSlice 44 6 #[(0, .agg (X 0).toArray), (1, .agg (X 1).toArray), (2, .agg (X 2).toArray), (3, .agg (X 3).toArray), (4, .agg (X 4).toArray), (5, .agg (X 5).toArray)]).run Tryz.prog w = .ok (.slice (some ⟨w.heap.size, 0, none⟩) 6 6) (w.alloc (.cells R.toArray 31))) ∧
  ∀ j, j < 6 → ∀ i v, (X j)[i]? = some v → R[j * 23 + i]? = some v := by
 obtain ⟨ie, hie, hsz⟩ : ∃ ie, Tryz.prog.info? 31 = some ie ∧ ie.size = 23 := by
  have := size_prd
  cases hi : Tryz.prog.info? 31 with
  | none => rw [hi] at this; cases this
  | some ie => rw [hi] at this; exact ⟨ie, rfl, Option.some.inj this⟩
 obtain ⟨z, hz⟩ : ∃ z, ie.zero = some z := by
  have : (Tryz.prog.info? 31).map (·.zero.isSome) = some true := by kernel_rfl
  rw [hie] at this
  exact Option.isSome_iff_exists.1 (Option.some.inj this)
 obtain ⟨r, h1, h2, h3⟩ := Great.fill_dense (s := 23) (by omega) [.agg (X 0).toArray, .agg (X 1).toArray, .agg (X 2).toArray, .agg (X 3).toArray, .agg (X 4).toArray, .agg (X 5).toArray] 0 ((Array.range (6 * ie.size)).map (z.cells[· % z.cells.size]!))
  (by
   intro v hv
   simp only [List.mem_cons, List.not_mem_nil, or_false] at hv
   rcases hv with rfl | rfl | rfl | rfl | rfl | rfl <;> show (List.toArray _).size = 23 <;> rw [List.size_toArray] <;> exact h _ (by omega))
  (by rw [Array.size_map, Array.size_range, hsz]; exact Nat.le_refl _)
 rw [Array.size_map, Array.size_range, hsz] at h2
 refine ⟨r.toList, by rw [Array.length_toList, h2], fun w => ?_, ?_⟩
 ·rw [run_buildSlice w _ 31 6 _ r ie z Tryz.underlying44 hie hz (by rw [hsz]; decide) (by rw [hsz]; decide) (by rw [hsz]; exact hsz ▸ h1)]
 ·intro j hj i v hv
  have hi : i < 23 := by have := (List.getElem?_eq_some_iff.1 hv).1; rw [h j hj] at this; exact this
  rw [Array.getElem?_toList, h3 (j * 23 + i), if_pos (by simp only [List.length_cons, List.length_nil]; omega), show (j * 23 + i) / 23 - 0 = j by omega, show (j * 23 + i) % 23 = i by omega]
  have key : ([.agg (X 0).toArray, .agg (X 1).toArray, .agg (X 2).toArray, .agg (X 3).toArray, .agg (X 4).toArray, .agg (X 5).toArray] : List Value)[j]? = some (.agg (X j).toArray) :=
   six_of (fun j => ([.agg (X 0).toArray, .agg (X 1).toArray, .agg (X 2).toArray, .agg (X 3).toArray, .agg (X 4).toArray, .agg (X 5).toArray] : List Value)[j]? = some (.agg (X j).toArray)) rfl rfl rfl rfl rfl rfl j hj
  rw [key]
  show (X j).toArray[i]? = some v
  rw [List.getElem?_toArray]; exact hv
end Go.Proofs.YtjieebmcbpdeiaaGreatDoor
