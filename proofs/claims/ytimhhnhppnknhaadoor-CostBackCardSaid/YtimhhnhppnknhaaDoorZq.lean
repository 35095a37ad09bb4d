/- LAYER 15: what the listed variables hold; ParseUint, ParseInt, Itoa, TrailingZeros64 as package cost calls them. -/
import Derived.Test.YtimhhnhppnknhaaDoorZp
import Derived.Test.YtimhhnhppnknhaaDoorZl
import Derived.Test.YtimhhnhppnknhaaDoorSp
import Derived.Shelf.Spec.TrailingZeros
import Derived.Lib.AppendIntMem
import Derived.Lib.IfaceNeq
namespace Go.Proofs.YtimhhnhppnknhaaDoor
set_option maxRecDepth 100000
open Go Go.RowKit

/-- What the listed variables hold, as far as a number's text comes to them. -/
structure EnvC (w : World) : Prop where
  pow : Lib.TabIs Tryd.prog w "internal/strconv.uint64pow10" .u64 Lib.pow10Tab
  tz : TabAt 1 Lib.deBruijn64tab w
/-- The like, as far as a text's number comes to them. -/
structure EnvD (w : World) : Prop extends EnvC w where
  most : ∃ m, w.cell? ⟨3, 0, none⟩ = some (.int .i64 m)
  synt : ∃ v, w.cell? ⟨4, 0, none⟩ = some v ∧ (v = .nilIface ∨ ∃ t p, v = .iface t p)
  rang : ∃ v, w.cell? ⟨5, 0, none⟩ = some v ∧ (v = .nilIface ∨ ∃ t p, v = .iface t p)
theorem EnvC.next {w w' : World} (h : EnvC w) (hb : Below w.heap.size w w') : EnvC w' :=
  ⟨Joins.tab_stays gPow h.pow hb (Nat.le_refl _), fun j hj => cell_later (h.tz j hj) (Nat.le_refl _) hb⟩
theorem EnvD.next {w w' : World} (h : EnvD w) (hb : Below w.heap.size w w') : EnvD w' := by
  obtain ⟨hC, ⟨m, hm⟩, ⟨v, hv, h1⟩, ⟨u, hu, h2⟩⟩ := h
  exact ⟨hC.next hb, ⟨m, cell_later hm (Nat.le_refl _) hb⟩, ⟨v, cell_later hv (Nat.le_refl _) hb, h1⟩, ⟨u, cell_later hu (Nat.le_refl _) hb, h2⟩⟩
theorem toErr_at (fn s : ByteArray) (b n : Int) (hs : s.size ≤ 281474976710656) (w : World) (hE : EnvD w) (k : Int) (hk : k = 1 ∨ k = 2) :
    Calls Tryd.prog 54 #[.string fn, .string s, .int .i64 b, .int .i64 n, .iface 82 (.int .i64 k)] w (GaveAny w) := by
  rcases hk with rfl | rfl
  · obtain ⟨v, h1, h2⟩ := hE.rang
    refine (Tryd.strconv_toError_range fn s b n v w hs h1 h2).mono ?_
    rintro e w' ⟨N, rfl, -, -, hb⟩
    exact ⟨_, rfl, hb⟩
  · obtain ⟨v, h1, h2⟩ := hE.synt
    refine (Tryd.strconv_toError_syntax fn s b n v w hs h1 h2).mono ?_
    rintro e w' ⟨N, rfl, -, -, hb⟩
    exact ⟨_, rfl, hb⟩
theorem errV_1 : errV 1 = .iface 82 (.int .i64 1) := rfl
theorem errV_2 : errV 2 = .iface 82 (.int .i64 2) := rfl
/-! TrailingZeros64. -/
theorem ctz_twos (f x : Nat) (h0 : 0 < x) (h : x < 2 ^ f) : Lib.ctzFrom f x = twosC x := by
  induction f generalizing x with
  | zero => rw [Nat.pow_zero] at h; omega
  | succ f ih =>
    unfold Lib.ctzFrom
    split
    · rename_i h1; rw [twosC_odd x h1]
    · rename_i h1
      rw [Nat.pow_succ] at h
      rw [twosC_even x (by omega) (by omega), ih (x / 2) (by omega) (by omega), Nat.add_comm]
set_option maxHeartbeats 2000000 in
theorem tz_any (x : Nat) (h0 : 0 < x) (h : x < 2 ^ 64) (w : World) (hT : TabAt 1 Lib.deBruijn64tab w) : Calls Tryd.prog 25 #[.int .u64 x] w fun e w' => e = .returned (.int .i64 (twosC x : Int)) ∧ w = w' := by
  obtain ⟨hlow, hk⟩ := Lib.lowest_bit 64 x (by omega) h
  obtain ⟨hi, htab⟩ := Lib.deBruijn64_at _ hk
  have hcell := hT _ hi
  rw [htab] at hcell
  have key := tz64_key x _ h (by omega) hlow
  have e : Lib.ctz 64 x = twosC x := by unfold Lib.ctz; rw [if_neg (by omega), ctz_twos 64 x h0 h]
  rw [e] at hcell key hk hi
  have hx0 : ((x : Int) == 0) = false := by rw [beq_eq_false_iff_ne]; omega
  obtain ⟨idx, hidx⟩ : ∃ idx, idx = 2 ^ twosC x * 285870213051353865 % 18446744073709551616 / 288230376151711744 := ⟨_, rfl⟩
  rw [← hidx] at hcell key hi
  generalize twosC x = k at *
  clear hlow htab e hT hidx
  go_enter Tryd.func25, Tryd.ntmps25
  go_wp2_with (simp only [key])
  go_ret
  exact ⟨rfl, rfl⟩
/-! Itoa. -/
theorem itoa_int (n : Int) : Lib.itoa n = intL n := by
  unfold Lib.itoa intL
  by_cases h : n < 0
  · rw [if_pos h, if_pos h, decDigits_num]
  · rw [if_neg h, if_neg h, decDigits_num, show n.toNat = n.natAbs by omega]
theorem itoa_any (n : Int) (h0 : -9223372036854775808 ≤ n) (h1 : n ≤ 9223372036854775807) (w : World) (hE : EnvC w) :
    Calls Tryd.prog 31 #[.int .i64 n] w fun e w' => e = .returned (.string (bstr (intL n))) ∧ Below w.heap.size w w' := by
  refine (Tryd.strconv_Itoa n h0 h1 w hE.pow).mono ?_
  rintro e w' ⟨rfl, k, os, rfl⟩
  exact ⟨by rw [itoa_int n]; rfl, Lib.below_grow _ _ (Nat.le_refl _) k os⟩
/-! ParseUint, ParseInt. -/
theorem pm_three (mx : Nat) (l : List UInt8) : (pmA mx l).1 ≤ mx ∧ ((pmA mx l).2 = 0 ∨ (pmA mx l).2 = 1 ∨ (pmA mx l).2 = 2) := by
  obtain ⟨h1, h2⟩ := pmA_code mx l
  exact ⟨h1, by rcases h2 with h | ⟨h, -⟩ | h <;> simp [h]⟩
set_option maxHeartbeats 2000000 in
theorem pu53_any (l : List UInt8) (hl : l.length ≤ 100000) (w : World) (hE : EnvD w) :
    Calls Tryd.prog 43 #[.string (bstr l), .int .i64 10, .int .i64 53] w (GavePu (pmA 9007199254740991 l).1 w) := by
  have hi := ipm53_any l hl w
  obtain ⟨-, hc⟩ := pm_three 9007199254740991 l
  have hsz : (bstr l).size ≤ 281474976710656 := by rw [size_bstr]; omega
  have hts := Lib.hid (fun fn w' (h : Below w.heap.size w w') k hk => toErr_at fn (bstr l) 10 53 hsz w' (hE.next h) k hk)
  generalize (pmA 9007199254740991 l).1 = n at *
  generalize (pmA 9007199254740991 l).2 = c at *
  clear hE hl hsz
  rcases hc with rfl | rfl | rfl
  · rw [show errV 0 = .nilIface from rfl] at hi
    have hi := Lib.hid hi
    go_enter Tryd.func43, Tryd.ntmps43
    go_wp2_with (go_at_call 53; refine hi.out.mono ?_; rintro e w' ⟨rfl, hb1⟩)
    go_ret2
    exact ⟨_, rfl, hb1⟩
  · rw [errV_1] at hi
    have hi := Lib.hid hi
    go_enter Tryd.func43, Tryd.ntmps43
    go_wp2_with (first
      | (go_at_call 53; refine hi.out.mono ?_; rintro e w' ⟨rfl, hb1⟩)
      | (go_at_call 54; refine (hts.out _ _ hb1 1 (.inl rfl)).mono ?_; rintro e w2 ⟨v, rfl, hb2⟩; have hb2 := hb1.trans (hb2.mono hb1.size)))
    go_ret2
    exact ⟨_, rfl, hb2⟩
  · rw [errV_2] at hi
    have hi := Lib.hid hi
    go_enter Tryd.func43, Tryd.ntmps43
    go_wp2_with (first
      | (go_at_call 53; refine hi.out.mono ?_; rintro e w' ⟨rfl, hb1⟩)
      | (go_at_call 54; refine (hts.out _ _ hb1 2 (.inr rfl)).mono ?_; rintro e w2 ⟨v, rfl, hb2⟩; have hb2 := hb1.trans (hb2.mono hb1.size)))
    go_ret2
    exact ⟨_, rfl, hb2⟩
/-- What ParseInt makes of a numeral behind its sign, for 12 bits: the number, and 0; or 2 (not a numeral), or 1 (too large). -/
def piC (neg : Bool) (x : Nat × Nat) : Int × Nat :=
  if x.2 = 2 then (0, 2) else if neg then (if 2048 < x.1 then (-2048, 1) else (-(x.1 : Int), 0)) else if 2048 ≤ x.1 then (2047, 1) else ((x.1 : Int), 0)
def piA (l : List UInt8) : Int × Nat :=
  match l with
  | [] => (0, 2)
  | c :: r => if c = 43 then piC false (pmA 4095 r) else if c = 45 then piC true (pmA 4095 r) else piC false (pmA 4095 (c :: r))
theorem piC_code (g : Bool) (x : Nat × Nat) : -2048 ≤ (piC g x).1 ∧ (piC g x).1 ≤ 2047 ∧ ((piC g x).2 = 0 ∨ (piC g x).2 = 1 ∨ (piC g x).2 = 2) := by
  unfold piC
  (repeat' split) <;> refine ⟨?_, ?_, ?_⟩ <;> simp <;> omega
theorem piA_code (l : List UInt8) : -2048 ≤ (piA l).1 ∧ (piA l).1 ≤ 2047 ∧ ((piA l).2 = 0 ∨ (piA l).2 = 1 ∨ (piA l).2 = 2) := by
  unfold piA
  split
  · exact ⟨by decide, by decide, .inr (.inr rfl)⟩
  · (repeat' split) <;> exact piC_code _ _
theorem num10_digit (n : Nat) : ∀ c ∈ numL 10 n, 48 ≤ c.toNat := by
  have hd : ∀ i : Nat, i < 10 → 48 ≤ (hexD i).toNat := by
    have h : ∀ i : Fin 10, 48 ≤ (hexD i.1).toNat := by decide
    intro i hi; exact h ⟨i, hi⟩
  induction n using Nat.strongRecOn with
  | _ n ih =>
    by_cases h : n < 10
    · rw [numL_small 10 n h]
      intro c hc
      rw [List.mem_singleton.1 hc]
      exact hd n h
    · rw [numL_great 10 n (by omega) (by omega)]
      intro c hc
      rcases List.mem_append.1 hc with h1 | h1
      · exact ih (n / 10) (Nat.div_lt_self (by omega) (by omega)) c h1
      · rw [List.mem_singleton.1 h1]
        exact hd _ (Nat.mod_lt _ (by omega))
theorem pi_int (p : Int) (h1 : -2048 ≤ p) (h2 : p ≤ 2047) : piA (intL p) = (p, 0) := by
  have hn := pm_num 4095 p.natAbs (by omega)
  unfold intL
  by_cases h : p < 0
  · rw [if_pos h]
    show piC true (pmA 4095 (numL 10 p.natAbs)) = _
    rw [hn]
    unfold piC
    simp only [if_neg (show ¬ (0 : Nat) = 2 by omega), if_true]
    rw [if_neg (by omega)]
    congr 1; omega
  · rw [if_neg h]
    obtain ⟨c, r, e, hc⟩ := num10_head p.natAbs
    have hc2 : c ≠ 43 := by
      intro h2
      have := num10_digit p.natAbs c (by rw [e]; exact List.mem_cons_self ..)
      rw [h2] at this
      exact absurd this (by decide)
    rw [e]
    show (if c = 43 then _ else if c = 45 then _ else piC false (pmA 4095 (c :: r))) = _
    rw [if_neg hc2, if_neg hc, ← e, hn]
    unfold piC
    simp only [if_neg (show ¬ (0 : Nat) = 2 by omega), Bool.false_eq_true, if_false]
    rw [if_neg (by omega)]
    congr 1; omega
theorem neq_21 (w : World) : (binOp .neq 61 (.iface 82 (.int .i64 2)) (.iface 82 (.int .i64 1))).run Tryd.prog w = .ok (.bool true) w := Lib.run_neq_iface_int w 2 1 Tryd.underlying61 (by kernel_rfl) Tryd.underlying82
theorem neq_11 (w : World) : (binOp .neq 61 (.iface 82 (.int .i64 1)) (.iface 82 (.int .i64 1))).run Tryd.prog w = .ok (.bool false) w := Lib.run_neq_iface_int w 1 1 Tryd.underlying61 (by kernel_rfl) Tryd.underlying82
set_option maxHeartbeats 4000000 in
theorem ipi_any (l : List UInt8) (hl : l.length ≤ 100000) (w : World) :
    Calls Tryd.prog 55 #[.string (bstr l), .int .i64 10, .int .i64 12] w fun e w' => e = .returned (.tuple #[.int .i64 (piA l).1, errV (piA l).2]) ∧ Below w.heap.size w w' := by
  cases l with
  | nil =>
    have hne : (bstr []).toList.isEmpty = true := by rw [bstr_toList]; rfl
    go_enter Tryd.func55, Tryd.ntmps55
    go_wp2
    go_ret2
    exact ⟨rfl, Below.refl _ _⟩
  | cons c r =>
    have hne : (bstr (c :: r)).toList.isEmpty = false := by rw [bstr_toList]; rfl
    have hix : ∀ w', (Instr.index 9 (.string (bstr (c :: r))) (.int .i64 0)).run Tryd.prog w' = .ok (.int .u8 (c.toNat : Int)) w' := fun w' => index_bstr (c :: r) 0 (by simp) w'
    have hz := size_bstr (c :: r)
    have hex : (bstr (c :: r)).extract 1 (r.length + 1) = bstr r := by rw [extract_bstr12, List.drop_succ_cons, List.drop_zero, List.take_of_length_le (by omega)]
    rw [List.length_cons] at hz hl
    have hlr : (0 : Int) ≤ (r.length : Int) := by omega
    obtain ⟨V, hV⟩ : ∃ V, V = piA (c :: r) := ⟨_, rfl⟩
    rw [← hV]
    have HV := Lib.hid (hV.trans (show piA (c :: r) = if c = 43 then piC false (pmA 4095 r) else if c = 45 then piC true (pmA 4095 r) else piC false (pmA 4095 (c :: r)) from rfl))
    clear hV
    have e43 : ((c.toNat : Int) == 43) = decide (c = 43) := by
      rw [Bool.eq_iff_iff, beq_iff_eq, decide_eq_true_iff, show (43 : Int) = ((43 : UInt8).toNat : Int) from rfl, Int.ofNat_inj, UInt8.toNat_inj]
    have e45 : ((c.toNat : Int) == 45) = decide (c = 45) := by
      rw [Bool.eq_iff_iff, beq_iff_eq, decide_eq_true_iff, show (45 : Int) = ((45 : UInt8).toNat : Int) from rfl, Int.ofNat_inj, UInt8.toNat_inj]
    by_cases h1 : c = 43
    · rw [decide_eq_true h1] at e43
      have HV := Lib.hid (HV.out.trans (if_pos h1))
      clear e45 h1
      have hc := pmA_code 4095 (r)
      have hin := ipm12_any (r) (by omega) w
      generalize pmA 4095 (r) = x at *
      obtain ⟨un, cd⟩ := x
      obtain ⟨hun, hc⟩ := hc
      have hun : un ≤ 4095 := hun
      have hw : IntKind.i64.wrap (un : Int) = (un : Int) := by rw [IntKind.wrap_i64]; omega
      have hw2 : IntKind.i64.wrap (-(un : Int)) = -(un : Int) := by rw [IntKind.wrap_i64]; omega
      rcases hc with rfl | ⟨rfl, hu⟩ | rfl
      · have hin : Calls Tryd.prog 53 #[.string (bstr (r)), .int .i64 10, .int .i64 12] w fun e w' => e = .returned (.tuple #[.int .u64 (un : Int), .nilIface]) ∧ Below w.heap.size w w' := hin
        have hin := Lib.hid hin
        by_cases hq : 2048 ≤ un
        · have HX := Lib.hid (HV.out.trans (show piC false (un, 0) = (2047, 1) by unfold piC; simp only [if_neg (show ¬ (0 : Nat) = 2 by omega), Bool.false_eq_true, if_false]; rw [if_pos hq]))
          have hq : (2048 : Int) ≤ (un : Int) := by omega
          clear HV
          go_enter Tryd.func55, Tryd.ntmps55
          go_wp2_with (go_at_call 53; refine hin.out.mono ?_; rintro e w' ⟨rfl, hb1⟩)
          go_ret2
          exact ⟨by rw [HX.out]; rfl, hb1⟩
        · have HX := Lib.hid (HV.out.trans (show piC false (un, 0) = ((un : Int), 0) by unfold piC; simp only [if_neg (show ¬ (0 : Nat) = 2 by omega), Bool.false_eq_true, if_false]; rw [if_neg hq]))
          have hq : (un : Int) < 2048 := by omega
          clear HV
          go_enter Tryd.func55, Tryd.ntmps55
          go_wp2_with (go_at_call 53; refine hin.out.mono ?_; rintro e w' ⟨rfl, hb1⟩)
          go_ret2
          exact ⟨by rw [HX.out]; rfl, hb1⟩
      · obtain rfl : un = 4095 := hu
        have hin : Calls Tryd.prog 53 #[.string (bstr (r)), .int .i64 10, .int .i64 12] w fun e w' => e = .returned (.tuple #[.int .u64 4095, .iface 82 (.int .i64 1)]) ∧ Below w.heap.size w w' := hin
        have hin := Lib.hid hin
        have hq1 := neq_11
        have HX := Lib.hid (HV.out.trans (show piC false (4095, 1) = (2047, 1) by rfl))
        clear HV
        go_enter Tryd.func55, Tryd.ntmps55
        go_wp2_with (go_at_call 53; refine hin.out.mono ?_; rintro e w' ⟨rfl, hb1⟩)
        go_ret2
        exact ⟨by rw [HX.out]; rfl, hb1⟩
      · have hin : Calls Tryd.prog 53 #[.string (bstr (r)), .int .i64 10, .int .i64 12] w fun e w' => e = .returned (.tuple #[.int .u64 (un : Int), .iface 82 (.int .i64 2)]) ∧ Below w.heap.size w w' := hin
        have hin := Lib.hid hin
        have hq2 := neq_21
        have HX := Lib.hid (HV.out.trans (show piC false (un, 2) = (0, 2) by unfold piC; rw [if_pos rfl]))
        clear HV
        go_enter Tryd.func55, Tryd.ntmps55
        go_wp2_with (go_at_call 53; refine hin.out.mono ?_; rintro e w' ⟨rfl, hb1⟩)
        go_ret2
        exact ⟨by rw [HX.out]; rfl, hb1⟩
    · rw [decide_eq_false h1] at e43
      by_cases h2 : c = 45
      · rw [decide_eq_true h2] at e45
        have HV := Lib.hid ((HV.out.trans (if_neg h1)).trans (if_pos h2))
        clear h1 h2
        have hc := pmA_code 4095 (r)
        have hin := ipm12_any (r) (by omega) w
        generalize pmA 4095 (r) = x at *
        obtain ⟨un, cd⟩ := x
        obtain ⟨hun, hc⟩ := hc
        have hun : un ≤ 4095 := hun
        have hw : IntKind.i64.wrap (un : Int) = (un : Int) := by rw [IntKind.wrap_i64]; omega
        have hw2 : IntKind.i64.wrap (-(un : Int)) = -(un : Int) := by rw [IntKind.wrap_i64]; omega
        rcases hc with rfl | ⟨rfl, hu⟩ | rfl
        · have hin : Calls Tryd.prog 53 #[.string (bstr (r)), .int .i64 10, .int .i64 12] w fun e w' => e = .returned (.tuple #[.int .u64 (un : Int), .nilIface]) ∧ Below w.heap.size w w' := hin
          have hin := Lib.hid hin
          by_cases hq : 2048 < un
          · have HX := Lib.hid (HV.out.trans (show piC true (un, 0) = (-2048, 1) by unfold piC; simp only [if_neg (show ¬ (0 : Nat) = 2 by omega), if_true]; rw [if_pos hq]))
            have hq : (2048 : Int) < (un : Int) := by omega
            clear HV
            go_enter Tryd.func55, Tryd.ntmps55
            go_wp2_with (go_at_call 53; refine hin.out.mono ?_; rintro e w' ⟨rfl, hb1⟩)
            go_ret2
            exact ⟨by rw [HX.out]; rfl, hb1⟩
          · have HX := Lib.hid (HV.out.trans (show piC true (un, 0) = (-(un : Int), 0) by unfold piC; simp only [if_neg (show ¬ (0 : Nat) = 2 by omega), if_true]; rw [if_neg hq]))
            have hq : (un : Int) ≤ 2048 := by omega
            clear HV
            go_enter Tryd.func55, Tryd.ntmps55
            go_wp2_with (go_at_call 53; refine hin.out.mono ?_; rintro e w' ⟨rfl, hb1⟩)
            go_ret2
            exact ⟨by rw [HX.out]; rfl, hb1⟩
        · obtain rfl : un = 4095 := hu
          have hin : Calls Tryd.prog 53 #[.string (bstr (r)), .int .i64 10, .int .i64 12] w fun e w' => e = .returned (.tuple #[.int .u64 4095, .iface 82 (.int .i64 1)]) ∧ Below w.heap.size w w' := hin
          have hin := Lib.hid hin
          have hq1 := neq_11
          have HX := Lib.hid (HV.out.trans (show piC true (4095, 1) = (-2048, 1) by rfl))
          clear HV
          go_enter Tryd.func55, Tryd.ntmps55
          go_wp2_with (go_at_call 53; refine hin.out.mono ?_; rintro e w' ⟨rfl, hb1⟩)
          go_ret2
          exact ⟨by rw [HX.out]; rfl, hb1⟩
        · have hin : Calls Tryd.prog 53 #[.string (bstr (r)), .int .i64 10, .int .i64 12] w fun e w' => e = .returned (.tuple #[.int .u64 (un : Int), .iface 82 (.int .i64 2)]) ∧ Below w.heap.size w w' := hin
          have hin := Lib.hid hin
          have hq2 := neq_21
          have HX := Lib.hid (HV.out.trans (show piC true (un, 2) = (0, 2) by unfold piC; rw [if_pos rfl]))
          clear HV
          go_enter Tryd.func55, Tryd.ntmps55
          go_wp2_with (go_at_call 53; refine hin.out.mono ?_; rintro e w' ⟨rfl, hb1⟩)
          go_ret2
          exact ⟨by rw [HX.out]; rfl, hb1⟩
      · rw [decide_eq_false h2] at e45
        have HV := Lib.hid ((HV.out.trans (if_neg h1)).trans (if_neg h2))
        have hlc : (c :: r).length ≤ 100000 := by rw [List.length_cons]; omega
        generalize c :: r = L at *
        clear h1 h2 hex
        have hc := pmA_code 4095 (L)
        have hin := ipm12_any (L) (by omega) w
        generalize pmA 4095 (L) = x at *
        obtain ⟨un, cd⟩ := x
        obtain ⟨hun, hc⟩ := hc
        have hun : un ≤ 4095 := hun
        have hw : IntKind.i64.wrap (un : Int) = (un : Int) := by rw [IntKind.wrap_i64]; omega
        have hw2 : IntKind.i64.wrap (-(un : Int)) = -(un : Int) := by rw [IntKind.wrap_i64]; omega
        rcases hc with rfl | ⟨rfl, hu⟩ | rfl
        · have hin : Calls Tryd.prog 53 #[.string (bstr (L)), .int .i64 10, .int .i64 12] w fun e w' => e = .returned (.tuple #[.int .u64 (un : Int), .nilIface]) ∧ Below w.heap.size w w' := hin
          have hin := Lib.hid hin
          by_cases hq : 2048 ≤ un
          · have HX := Lib.hid (HV.out.trans (show piC false (un, 0) = (2047, 1) by unfold piC; simp only [if_neg (show ¬ (0 : Nat) = 2 by omega), Bool.false_eq_true, if_false]; rw [if_pos hq]))
            have hq : (2048 : Int) ≤ (un : Int) := by omega
            clear HV
            go_enter Tryd.func55, Tryd.ntmps55
            go_wp2_with (go_at_call 53; refine hin.out.mono ?_; rintro e w' ⟨rfl, hb1⟩)
            go_ret2
            exact ⟨by rw [HX.out]; rfl, hb1⟩
          · have HX := Lib.hid (HV.out.trans (show piC false (un, 0) = ((un : Int), 0) by unfold piC; simp only [if_neg (show ¬ (0 : Nat) = 2 by omega), Bool.false_eq_true, if_false]; rw [if_neg hq]))
            have hq : (un : Int) < 2048 := by omega
            clear HV
            go_enter Tryd.func55, Tryd.ntmps55
            go_wp2_with (go_at_call 53; refine hin.out.mono ?_; rintro e w' ⟨rfl, hb1⟩)
            go_ret2
            exact ⟨by rw [HX.out]; rfl, hb1⟩
        · obtain rfl : un = 4095 := hu
          have hin : Calls Tryd.prog 53 #[.string (bstr (L)), .int .i64 10, .int .i64 12] w fun e w' => e = .returned (.tuple #[.int .u64 4095, .iface 82 (.int .i64 1)]) ∧ Below w.heap.size w w' := hin
          have hin := Lib.hid hin
          have hq1 := neq_11
          have HX := Lib.hid (HV.out.trans (show piC false (4095, 1) = (2047, 1) by rfl))
          clear HV
          go_enter Tryd.func55, Tryd.ntmps55
          go_wp2_with (go_at_call 53; refine hin.out.mono ?_; rintro e w' ⟨rfl, hb1⟩)
          go_ret2
          exact ⟨by rw [HX.out]; rfl, hb1⟩
        · have hin : Calls Tryd.prog 53 #[.string (bstr (L)), .int .i64 10, .int .i64 12] w fun e w' => e = .returned (.tuple #[.int .u64 (un : Int), .iface 82 (.int .i64 2)]) ∧ Below w.heap.size w w' := hin
          have hin := Lib.hid hin
          have hq2 := neq_21
          have HX := Lib.hid (HV.out.trans (show piC false (un, 2) = (0, 2) by unfold piC; rw [if_pos rfl]))
          clear HV
          go_enter Tryd.func55, Tryd.ntmps55
          go_wp2_with (go_at_call 53; refine hin.out.mono ?_; rintro e w' ⟨rfl, hb1⟩)
          go_ret2
          exact ⟨by rw [HX.out]; rfl, hb1⟩
set_option maxHeartbeats 2000000 in
theorem pi12_any (l : List UInt8) (hl : l.length ≤ 100000) (w : World) (hE : EnvD w) :
    Calls Tryd.prog 44 #[.string (bstr l), .int .i64 10, .int .i64 12] w fun e w' => ∃ v, e = .returned (.tuple #[.int .i64 (piA l).1, v]) ∧ Below w.heap.size w w' := by
  have hi := ipi_any l hl w
  obtain ⟨-, hc⟩ := (piA_code l).2
  have hsz : (bstr l).size ≤ 281474976710656 := by rw [size_bstr]; omega
  have hts := Lib.hid (fun fn w' (h : Below w.heap.size w w') k hk => toErr_at fn (bstr l) 10 12 hsz w' (hE.next h) k hk)
  generalize (piA l).1 = n at *
  generalize (piA l).2 = c at *
  clear hE hl hsz
  rcases hc with rfl | rfl | rfl
  · rw [show errV 0 = .nilIface from rfl] at hi
    have hi := Lib.hid hi
    go_enter Tryd.func44, Tryd.ntmps44
    go_wp2_with (go_at_call 55; refine hi.out.mono ?_; rintro e w' ⟨rfl, hb1⟩)
    go_ret2
    exact ⟨_, rfl, hb1⟩
  · rw [errV_1] at hi
    have hi := Lib.hid hi
    go_enter Tryd.func44, Tryd.ntmps44
    go_wp2_with (first
      | (go_at_call 55; refine hi.out.mono ?_; rintro e w' ⟨rfl, hb1⟩)
      | (go_at_call 54; refine (hts.out _ _ hb1 1 (.inl rfl)).mono ?_; rintro e w2 ⟨v, rfl, hb2⟩; have hb2 := hb1.trans (hb2.mono hb1.size)))
    go_ret2
    exact ⟨_, rfl, hb2⟩
  · rw [errV_2] at hi
    have hi := Lib.hid hi
    go_enter Tryd.func44, Tryd.ntmps44
    go_wp2_with (first
      | (go_at_call 55; refine hi.out.mono ?_; rintro e w' ⟨rfl, hb1⟩)
      | (go_at_call 54; refine (hts.out _ _ hb1 2 (.inr rfl)).mono ?_; rintro e w2 ⟨v, rfl, hb2⟩; have hb2 := hb1.trans (hb2.mono hb1.size)))
    go_ret2
    exact ⟨_, rfl, hb2⟩
end Go.Proofs.YtimhhnhppnknhaaDoor
