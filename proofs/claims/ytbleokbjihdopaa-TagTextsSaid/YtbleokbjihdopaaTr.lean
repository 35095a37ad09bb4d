/- LAYER 5: the document's answer: digits of 16, there and back. -/
import Derived.Test.YtbleokbjihdopaaTp
namespace Go.Proofs.Ytbleokbjihdopaa
open Go Go.RowKit

theorem rdigit_any (n : Nat) (hn : n < 16) (w : World) :
    Calls Try.prog 18 #[.int .i64 n] w fun e w' => e = .returned (.int .u8 ((hexD n).toNat : Int)) ∧ w = w' := by
  by_cases h : n < 10
  · have HD := Lib.hid (show ((hexD n).toNat : Int) = 48 + (n : Int) by unfold hexD; rw [if_pos h, UInt8.toNat_ofNat']; omega)
    have h' : (n : Int) < 10 := by omega
    go_enter Try.func18, Try.ntmps18
    go_wp2
    go_ret
    exact ⟨by rw [HD.out]; rfl, rfl⟩
  · have HD := Lib.hid (show ((hexD n).toNat : Int) = 87 + (n : Int) by unfold hexD; rw [if_neg h, UInt8.toNat_ofNat']; omega)
    have h' : (10 : Int) ≤ (n : Int) := by omega
    go_enter Try.func18, Try.ntmps18
    go_wp2
    go_ret
    exact ⟨by rw [HD.out]; rfl, rfl⟩
theorem rvalue_any (c : UInt8) (w : World) :
    Calls Try.prog 17 #[.int .u8 (c.toNat : Int)] w fun e w' => e = .returned (.int .i64 (hexV c)) ∧ w = w' := by
  go_enter Try.func17, Try.ntmps17
  go_wp2
  go_loop [3] (fun i => ∃ k : Nat, k ≤ 16 ∧ i = .int .i64 k ∧ ∀ j, j < k → hexD j ≠ c) (fun i => 16 - (intOf i).toNat)
  case atStart => exact ⟨0, by omega, rfl, fun j hj => absurd hj (Nat.not_lt_zero _)⟩
  case round =>
    obtain ⟨k, hk, rfl, hne⟩ := hrel
    by_cases hlt : k < 16
    · have hd := rdigit_any k hlt
      by_cases he : hexD k = c
      · have HV := Lib.hid (show hexV c = (k : Int) from index_hit digL c k hlt (by rw [digL_at k hlt, he]) (fun j hj => by rw [digL_at j (by omega)]; exact hne j hj))
        rw [he] at hd
        clear he hne
        go_wp2_with (go_at_call 18; refine (hd _).mono ?_; rintro e w1 ⟨rfl, rfl⟩)
        go_ret
        exact ⟨by rw [HV.out]; rfl, rfl⟩
      · have hne' := Lib.hid (show ∀ j, j < k + 1 → hexD j ≠ c from fun j hj => by
          by_cases e : j = k
          · rw [e]; exact he
          · exact hne j (by omega))
        have hb : (((hexD k).toNat : Int) == (c.toNat : Int)) = false := by
          rw [beq_eq_false_iff_ne]
          intro h
          exact he (UInt8.toNat_inj.1 (by omega))
        generalize hexD k = x at *
        clear he hne
        go_wp2_with (go_at_call 18; refine (hd _).mono ?_; rintro e w1 ⟨rfl, rfl⟩)
        go_round
        case rel => exact ⟨k + 1, by omega, by go_num, hne'.out⟩
        case measure => simp [intOf]; omega
    · obtain rfl : k = 16 := by omega
      have HV := Lib.hid (show hexV c = -1 from index_miss digL c (fun j hj => by have hj : j < 16 := hj; rw [digL_at j hj]; exact hne j hj))
      clear hne
      go_wp2
      go_ret
      exact ⟨by rw [HV.out]; rfl, rfl⟩
set_option maxHeartbeats 1000000 in
theorem rtext_any (t : List UInt8) (ht : t.length = 32) (w : World) :
    Calls Try.prog 12 #[.agg (byts t).toArray] w fun e w' => e = .returned (.string (bstr (hexL t))) ∧ Below w.heap.size w w' := by
  obtain ⟨i0, hi, hz0, hz1, hz2⟩ := info_parts infoByte
  obtain ⟨V, hV⟩ : ∃ V, V = byts t := ⟨_, rfl⟩
  have hVl : V.length = 32 := by rw [hV, length_byts, ht]
  have hsz := Lib.hid (show (Try.prog.info? 25).map (·.size) = some V.toArray.size by rw [size_tag, List.size_toArray, hVl])
  have HV := Lib.hid hV
  rw [← hV]
  clear hV hVl
  have hown0 : ((w.alloc (.cells V.toArray 25)).alloc (.cells #[] 5)).ownsRow w.heap.size 5 1 (.slice (some ⟨w.heap.size + 1, 0, none⟩) 0 0) 0 (byts []) := by
    have h := World.ownsRow_lit (w.alloc (.cells V.toArray 25)) (e := 5) (size := 1) #[] 0 (Nat.le_refl _) (by unfold maxLen; omega) rfl
    rw [World.size_alloc] at h
    exact own_mono h (by omega)
  have hb0 := below_two w (.cells V.toArray 25) (.cells #[] 5)
  go_enter Try.func12, Try.ntmps12
  go_wp2_with (with_reducible refine wpList_load_row rfl 25 (.tmp 1) rfl w.heap.size rfl 25 V.toArray (0, 0) _ (heap_alloc2_old w _ _) Try.underlying25 rfl hsz.out ?_)
  go_loopw [3, 8] (fun v i wr => ∃ k : Nat, k ≤ 32 ∧ i = .int .i64 k ∧ wr.ownsRow w.heap.size 5 1 v (2 * k) (byts (hexL (t.take k))) ∧ Below w.heap.size w wr) (fun _ i _ => 32 - (intOf i).toNat)
  case atStart => exact ⟨0, by omega, rfl, hown0, hb0⟩
  case round =>
    clear hown0 hb0
    obtain ⟨k, hk, rfl, hown, hb⟩ := hrel
    by_cases hlt : k < 32
    · have hix := index_tag t ht k hlt
      rw [← HV.out] at hix
      have HS := Lib.hid (hexL_succ t k (by omega))
      generalize hexL (t.take k) = X at *
      generalize t.getD k 0 = x at *
      have hxb := byte_bd x
      have hd1 : ∀ w, Calls Try.prog 18 #[.int .i64 ((x.toNat : Int) / 16)] w fun e w' => e = .returned (.int .u8 ((hexD (x.toNat / 16)).toNat : Int)) ∧ w = w' := rdigit_any (x.toNat / 16) (by have := x.toNat_lt; omega)
      have hd2 : ∀ w, Calls Try.prog 18 #[.int .i64 ((x.toNat : Int) % 16)] w fun e w' => e = .returned (.int .u8 ((hexD (x.toNat % 16)).toNat : Int)) ∧ w = w' := rdigit_any (x.toNat % 16) (by omega)
      have HX := Lib.hid (show hex2 x = [hexD (x.toNat / 16), hexD (x.toNat % 16)] from rfl)
      generalize hexD (x.toNat / 16) = a at *
      generalize hexD (x.toNat % 16) = b at *
      have n1 : 2 * k + 2 ≤ maxLen := by unfold maxLen; omega
      have n2 : (2 * k + 2) * 1 ≤ 140737488355328 := by omega
      have hbs := hb.size
      have hbe := hb.alloc hbs (.cells #[Value.int .u8 (a.toNat : Int), Value.int .u8 (b.toNat : Int)] 5)
      have howna := hown.alloc (.cells #[Value.int .u8 (a.toNat : Int), Value.int .u8 (b.toNat : Int)] 5)
      have hlt' := fun j hj => (hown.lt j hj).1
      have tok1 : True := trivial
      go_wp2_with (first
        | (go_at_call 18; have _t := tok1; refine (hd1 _).mono ?_; rintro e w1 ⟨rfl, rfl⟩; clear tok1)
        | (go_at_call 18; refine (hd2 _).mono ?_; rintro e w1 ⟨rfl, rfl⟩)
        | (at_builtin; refine wpList_append_own _ rfl (.tmp 11) (.tmp 20) 22 rfl w.heap.size 5 i0 _ 1 1 Try.underlying22 hi hz0 hz1 hz2 rfl (by omega) _ (2 * k) (byts X) rfl howna ⟨wr.heap.size, 0, none⟩ 2 2 (byts [a, b]) rfl rfl (cells_new _ _ _) (byts_one _) n1 n2 (by rw [World.size_alloc]; omega) ?_; intro v3 w3 hown3 hg3 _; have hb3 : Below w.heap.size w w3 := hbe.grown hg3 (by rw [World.size_alloc]; omega) (fun j hj => hlt' j hj)))
      go_roundw
      case rel =>
        refine ⟨k + 1, by omega, by go_num, ?_, hb3⟩
        rw [HS.out, HX.out, byts_append]
        exact hown3
      case measure => simp [intOf]; omega
    · obtain rfl : k = 32 := by omega
      rw [List.take_of_length_le (by omega)] at hown
      obtain ⟨A, c, rfl, hl, hsl⟩ := Sl.of_own hown
      have hcv := conv_bytes hsl (2 * 32) (by rw [length_hexL, ht])
      clear hsl hl hown
      go_wp2
      go_ret
      exact ⟨rfl, hb⟩
set_option maxHeartbeats 1000000 in
theorem rparse_any (s : List UInt8) (w : World) :
    Calls Try.prog 10 #[.string (bstr s)] w fun e w' => e = .returned (tagV (unhex s) (isHex s)) ∧ Below w.heap.size w w' := by
  obtain ⟨Z, hZ⟩ : ∃ Z, Z = byts zeroT := ⟨_, rfl⟩
  have hZl : Z.length = 32 := by rw [hZ]; rfl
  have hsz := Lib.hid (show (Try.prog.info? 25).map (·.size) = some Z.toArray.size by rw [size_tag, List.size_toArray, hZl])
  have HZ := Lib.hid hZ
  have hsb := size_bstr s
  clear hZ hZl
  by_cases h64 : s.length = 64
  · have hI := isHex_iff s h64
    have hss : ((bstr s).size : Int) = 64 := by rw [hsb, h64]; rfl
    obtain ⟨S, hS⟩ : ∃ S, S = bstr s := ⟨_, rfl⟩
    have hix : ∀ k : Nat, k < 64 → ∀ w, (Instr.index 9 (.string S) (.int .i64 (k : Int))).run Try.prog w = .ok (.int .u8 ((s.getD k 0).toNat : Int)) w := by
      intro k hk w; rw [hS]; exact index_bstr s k (by omega) w
    rw [← hS] at hss ⊢
    have HI := Lib.hid hI
    have HIX := Lib.hid hix
    clear hS hsb hI hix
    go_enter Try.func10, Try.ntmps10
    go_wp2_with (with_reducible refine wpList_store_row rfl 25 (.tmp 4) (.tmp 8) rfl (w.heap.size + 1) _ rfl rfl 25 _ (heap_alloc2_new w _ _) (by kernel_rfl) (by kernel_rfl) (by kernel_rfl) ?_; refine Hid.out ?_)
    refine Lib.hid ?_
    generalize hw4 : World.setRow _ _ _ = w4
    obtain ⟨r0, r1, hb4⟩ := row_new_set2 hw4
    have r0 : Row w4 w.heap.size 25 Z := by rw [HZ.out, ← zero_cells]; exact r0
    have r1 : Row w4 (w.heap.size + 1) 25 (byts (nibs s 0)) := by rw [nibs_zero, ← zero_cells]; exact r1
    clear hw4
    go_wp2_with fail
    go_loopw [5] (fun i wr => ∃ k : Nat, k ≤ 32 ∧ i = .int .i64 k ∧ (∀ j, j < 2 * k → 0 ≤ hexV (s.getD j 0)) ∧ Row wr (w.heap.size + 1) 25 (byts (nibs s (2 * k))) ∧ Row wr w.heap.size 25 Z ∧ Below w.heap.size w wr) (fun i _ => 32 - (intOf i).toNat)
    case atStart => exact ⟨0, by omega, rfl, fun j hj => absurd hj (Nat.not_lt_zero _), r1, r0, hb4⟩
    case round =>
      clear r0 r1 hb4
      obtain ⟨k, hk, rfl, hp, hrow, hres, hb⟩ := hrel
      by_cases hlt : k < 32
      · have hix1 : ∀ w, (Instr.index 9 (.string S) (.int .i64 (2 * (k : Int)))).run Try.prog w = .ok (.int .u8 ((s.getD (2 * k) 0).toNat : Int)) w := HIX.out (2 * k) (by omega)
        have hix2 : ∀ w, (Instr.index 9 (.string S) (.int .i64 (2 * (k : Int) + 1))).run Try.prog w = .ok (.int .u8 ((s.getD (2 * k + 1) 0).toNat : Int)) w := HIX.out (2 * k + 1) (by omega)
        have hv1 := rvalue_any (s.getD (2 * k) 0)
        have hv2 := rvalue_any (s.getD (2 * k + 1) 0)
        by_cases hneg : hexV (s.getD (2 * k) 0) < 0 ∨ hexV (s.getD (2 * k + 1) 0) < 0
        · have e1 : isHex s = false := by
            rw [Bool.eq_false_iff]
            intro h
            have h1 := HI.out.1 h (2 * k) (by omega)
            have h2 := HI.out.1 h (2 * k + 1) (by omega)
            omega
          have e2 : unhex s = zeroT := by unfold unhex; rw [e1]; rfl
          have E1 := Lib.hid e1
          have E2 := Lib.hid e2
          have hpos1 := (hexV_bd (s.getD (2 * k) 0)).1
          have hpos2 := (hexV_bd (s.getD (2 * k + 1) 0)).1
          generalize hexV (s.getD (2 * k) 0) = a at *
          generalize hexV (s.getD (2 * k + 1) 0) = b at *
          generalize s.getD (2 * k) 0 = c1 at *
          generalize s.getD (2 * k + 1) 0 = c2 at *
          have hzz := Lib.hid (show Z.toArray.size = 32 by rw [List.size_toArray, HZ.out]; rfl)
          have H0 := Lib.hid (show wr.heap[w.heap.size]? = some (.cells Z.toArray 25 (0, 0)) from hres)
          clear e1 e2 hp hrow hres HI
          have tok1 : True := trivial
          by_cases hna : a < 0
          · clear hneg
            go_wp2_with (first
              | (go_at_call 17; have _t := tok1; refine (hv1 _).mono ?_; rintro e w1 ⟨rfl, rfl⟩; clear tok1)
              | (go_at_call 17; refine (hv2 _).mono ?_; rintro e w1 ⟨rfl, rfl⟩)
              | (with_reducible refine wpList_store_row rfl 25 (.tmp 2) (.tmp 34) rfl w.heap.size _ rfl rfl 25 _ H0.out (by kernel_rfl) (Eq.trans hzz.out (by kernel_rfl)) (by kernel_rfl) ?_; refine Hid.out ?_))
            refine Lib.hid ?_
            generalize hw5 : World.setRow _ _ _ = w5
            obtain ⟨r4, hg4⟩ := row_set (show Row wr w.heap.size 25 Z from H0.out) hw5
            have r4 : Row w5 w.heap.size 25 Z := by rw [HZ.out, ← zero_cells]; exact r4
            have R4 := Lib.hid r4
            have hb5 := hb.grown hg4 hb.size (fun k h => by cases h; exact Nat.le_refl _)
            clear hw5 r4 hg4 H0 hix1 hix2 hv1 hv2
            go_wp2_with fail
            exact ⟨rfl, _, results_row_tmp rfl _ _ w.heap.size 25 Z.toArray (0, 0) (.array 32 5) rfl R4.out Try.underlying25 rfl hsz.out _ rfl, by rw [E1.out, E2.out, HZ.out]; rfl, hb5⟩
          · have hnb : b < 0 := by omega
            clear hneg
            go_wp2_with (first
              | (go_at_call 17; have _t := tok1; refine (hv1 _).mono ?_; rintro e w1 ⟨rfl, rfl⟩; clear tok1)
              | (go_at_call 17; refine (hv2 _).mono ?_; rintro e w1 ⟨rfl, rfl⟩)
              | (with_reducible refine wpList_store_row rfl 25 (.tmp 2) (.tmp 34) rfl w.heap.size _ rfl rfl 25 _ H0.out (by kernel_rfl) (Eq.trans hzz.out (by kernel_rfl)) (by kernel_rfl) ?_; refine Hid.out ?_))
            refine Lib.hid ?_
            generalize hw5 : World.setRow _ _ _ = w5
            obtain ⟨r4, hg4⟩ := row_set (show Row wr w.heap.size 25 Z from H0.out) hw5
            have r4 : Row w5 w.heap.size 25 Z := by rw [HZ.out, ← zero_cells]; exact r4
            have R4 := Lib.hid r4
            have hb5 := hb.grown hg4 hb.size (fun k h => by cases h; exact Nat.le_refl _)
            clear hw5 r4 hg4 H0 hix1 hix2 hv1 hv2
            go_wp2_with fail
            exact ⟨rfl, _, results_row_tmp rfl _ _ w.heap.size 25 Z.toArray (0, 0) (.array 32 5) rfl R4.out Try.underlying25 rfl hsz.out _ rfl, by rw [E1.out, E2.out, HZ.out]; rfl, hb5⟩
        · obtain ⟨a, ha⟩ := Int.eq_ofNat_of_zero_le (by omega : 0 ≤ hexV (s.getD (2 * k) 0))
          obtain ⟨b, hb'⟩ := Int.eq_ofNat_of_zero_le (by omega : 0 ≤ hexV (s.getD (2 * k + 1) 0))
          have ha16 : a < 16 := by have := (hexV_bd (s.getD (2 * k) 0)).2; omega
          have hb16 : b < 16 := by have := (hexV_bd (s.getD (2 * k + 1) 0)).2; omega
          have HS := Lib.hid (show nibs s (2 * (k + 1)) = (nibs s (2 * k)).set k (UInt8.ofNat (a * 16 + b)) by
            rw [show 2 * (k + 1) = 2 * k + 1 + 1 by omega, nibs_succ, nibs_succ, show (2 * k + 1) / 2 = k by omega, show 2 * k / 2 = k by omega, List.set_set]
            congr 1
            unfold nib
            rw [if_pos (by omega), ha, hb']
            rfl)
          rw [ha] at hv1
          rw [hb'] at hv2
          have hp' := Lib.hid (show ∀ j, j < 2 * (k + 1) → 0 ≤ hexV (s.getD j 0) from fun j hj => by
            by_cases e : j = 2 * k
            · rw [e, ha]; omega
            · by_cases e : j = 2 * k + 1
              · rw [e, hb']; omega
              · exact hp j (by omega))
          have HY := Lib.hid (show ((UInt8.ofNat (a * 16 + b)).toNat : Int) = (a : Int) * 16 + (b : Int) by rw [UInt8.toNat_ofNat']; omega)
          have hc := hrow.cell k
          rw [get_byts _ _ (by rw [length_nibs]; omega)] at hc
          generalize (((nibs s (2 * k)).getD k 0).toNat : Int) = y at *
          have hf := hrow.free k
          clear ha hb' hp hneg
          generalize s.getD (2 * k) 0 = c1 at *
          generalize s.getD (2 * k + 1) 0 = c2 at *
          have hI0 : IntKind.i64.wrap (2 * (k : Int)) = 2 * (k : Int) := by rw [IntKind.wrap_i64]; omega
          have tok1 : True := trivial
          go_wp2_with (first
            | (go_at_call 17; have _t := tok1; refine (hv1 _).mono ?_; rintro e w1 ⟨rfl, rfl⟩; clear tok1)
            | (go_at_call 17; refine (hv2 _).mono ?_; rintro e w1 ⟨rfl, rfl⟩))
          go_roundw
          case rel =>
            refine ⟨k + 1, by omega, by go_num, hp'.out, ?_, hres.far _ _ (by show w.heap.size ≠ w.heap.size + 1; omega), hb.grown (grown_setCell _ _ _ _) hb.size (fun k h => by cases h; omega)⟩
            rw [HS.out, ← byts_set, HY.out]
            exact hrow.set _ _
          case measure => simp [intOf]; omega
      · obtain rfl : k = 32 := by omega
        have e1 : isHex s = true := HI.out.2 hp
        have e2 : unhex s = nibs s (2 * 32) := by unfold unhex; rw [if_pos e1]
        have E1 := Lib.hid e1
        have E2 := Lib.hid e2
        have hVl := length_nibs s (2 * 32)
        generalize nibs s (2 * 32) = v at *
        obtain ⟨V, hV⟩ : ∃ V, V = byts v := ⟨_, rfl⟩
        rw [← hV] at hrow
        have hVl : V.length = 32 := by rw [hV, length_byts]; exact hVl
        have hone := Lib.hid (all_one (show ∀ v ∈ V, v.oneCell' = true by rw [hV]; exact byts_one _))
        have hsz2 := Lib.hid (show (Try.prog.info? 25).map (·.size) = some V.toArray.size by rw [size_tag, List.size_toArray, hVl])
        have hzv := Lib.hid (show Z.toArray.size = V.toArray.size by rw [List.size_toArray, List.size_toArray, hVl, HZ.out]; rfl)
        have HV := Lib.hid hV
        have HR := Lib.hid (show wr.heap[w.heap.size + 1]? = some (.cells V.toArray 25 (0, 0)) from hrow)
        have H0 := Lib.hid (show wr.heap[w.heap.size]? = some (.cells Z.toArray 25 (0, 0)) from hres)
        clear hV hVl e1 e2 hp hrow hres
        go_wp2_with (first
          | (with_reducible refine wpList_load_row rfl 25 (.tmp 4) rfl (w.heap.size + 1) rfl 25 V.toArray (0, 0) _ HR.out Try.underlying25 rfl hsz2.out ?_)
          | (with_reducible refine wpList_store_row rfl 25 (.tmp 2) (.tmp 42) rfl w.heap.size V.toArray rfl rfl 25 _ H0.out hsz2.out hzv.out hone.out ?_; refine Hid.out ?_))
        refine Lib.hid ?_
        generalize hw4 : World.setRow _ _ _ = w4
        obtain ⟨r4, hg4⟩ := row_set (show Row wr w.heap.size 25 Z from H0.out) hw4
        have R4 := Lib.hid r4
        have hb4 := hb.grown hg4 hb.size (fun k h => by cases h; exact Nat.le_refl _)
        clear hw4 r4 hg4 HR H0
        go_wp2_with fail
        exact ⟨rfl, _, results_row_tmp rfl _ _ w.heap.size 25 V.toArray (0, 0) (.array 32 5) rfl R4.out Try.underlying25 rfl hsz2.out _ rfl, by rw [E1.out, E2.out, HV.out]; rfl, hb4⟩
  · have e1 : isHex s = false := by unfold isHex; rw [decide_eq_false h64, Bool.false_and]
    have e2 : unhex s = zeroT := by unfold unhex; rw [e1]; rfl
    have E1 := Lib.hid e1
    have E2 := Lib.hid e2
    have hn : (((bstr s).size : Int) == 64) = false := by rw [beq_eq_false_iff_ne, hsb]; omega
    clear e1 e2 hsb h64
    generalize bstr s = S at *
    go_enter Try.func10, Try.ntmps10
    go_wp2_with (with_reducible refine wpList_store_row rfl 25 (.tmp 4) (.tmp 8) rfl (w.heap.size + 1) _ rfl rfl 25 _ (heap_alloc2_new w _ _) (by kernel_rfl) (by kernel_rfl) (by kernel_rfl) ?_; refine Hid.out ?_)
    refine Lib.hid ?_
    generalize hw4 : World.setRow _ _ _ = w4
    obtain ⟨r0, r1, hb4⟩ := row_new_set2 hw4
    have r0 : Row w4 w.heap.size 25 Z := by rw [HZ.out, ← zero_cells]; exact r0
    have r1 : Row w4 (w.heap.size + 1) 25 Z := by rw [HZ.out, ← zero_cells]; exact r1
    have hone := Lib.hid (all_one (show ∀ v ∈ Z, v.oneCell' = true by rw [HZ.out]; exact byts_one _))
    have H0 := Lib.hid (show w4.heap[w.heap.size]? = some (.cells Z.toArray 25 (0, 0)) from r0)
    have H1 := Lib.hid (show w4.heap[w.heap.size + 1]? = some (.cells Z.toArray 25 (0, 0)) from r1)
    clear hw4 r0 r1
    go_wp2_with (first
      | (with_reducible refine wpList_load_row rfl 25 (.tmp 4) rfl (w.heap.size + 1) rfl 25 Z.toArray (0, 0) _ H1.out Try.underlying25 rfl hsz.out ?_)
      | (with_reducible refine wpList_store_row rfl 25 (.tmp 2) (.tmp 12) rfl w.heap.size Z.toArray rfl rfl 25 _ H0.out hsz.out rfl hone.out ?_; refine Hid.out ?_))
    refine Lib.hid ?_
    generalize hw5 : World.setRow _ _ _ = w5
    obtain ⟨r4, hg4⟩ := row_set (show Row w4 w.heap.size 25 Z from H0.out) hw5
    have R4 := Lib.hid r4
    have hb5 := hb4.grown hg4 hb4.size (fun k h => by cases h; exact Nat.le_refl _)
    clear hw5 r4 hg4 H0 H1
    go_wp2_with fail
    exact ⟨rfl, _, results_row_tmp rfl _ _ w.heap.size 25 Z.toArray (0, 0) (.array 32 5) rfl R4.out Try.underlying25 rfl hsz.out _ rfl, by rw [E1.out, E2.out, HZ.out]; rfl, hb5⟩
end Go.Proofs.Ytbleokbjihdopaa
