/- Texts of this claim, one behind the other. -/
import Derived.Test.YtflebnbpoboljaaDoorGYl
import Derived.Test.YtflebnbpoboljaaDoorAd1
import Derived.Test.YtflebnbpoboljaaDoorGAp
import Derived.Test.YtflebnbpoboljaaDoorGIl2
import Derived.Lib.AppendIntMem
/- LAYER 13: package net: most, ahead. -/
namespace Go.Proofs.YtflebnbpoboljaaDoor
set_option maxRecDepth 100000
open Go Go.RowKit

theorem amost_any (a : Adr) (w : World) :
    Calls Tryd.prog 24 #[.agg (adrV a).toArray] w fun e w' => e = .returned (.int .i64 (mostA a.v6 : Nat)) ∧ Below w.heap.size w w' := by
  obtain ⟨w1, hw1⟩ : ∃ w1, w1 = w.alloc (.cells (adrV a).toArray 24) := ⟨_, rfl⟩
  have hr : Row w1 w.heap.size 24 (adrV a) := by rw [hw1]; exact Row.new w _ _
  have hb : Below w.heap.size w w1 := by rw [hw1]; exact (Below.refl _ w).alloc (Nat.le_refl _) _
  have hc6 := adr_v6 hr
  obtain ⟨V, hV⟩ : ∃ V, V = adrV a := ⟨_, rfl⟩
  rw [← hV] at hw1 ⊢
  clear hV hr
  cases h6 : a.v6 with
  | true =>
    rw [h6] at hc6
    go_enter Tryd.func24, Tryd.ntmps24
    subst hw1
    go_wp2
    go_ret
    exact ⟨rfl, hb⟩
  | false =>
    rw [h6] at hc6
    go_enter Tryd.func24, Tryd.ntmps24
    subst hw1
    go_wp2
    go_ret
    exact ⟨rfl, hb⟩
/-- The byte whose first bits, so many of them, are 1. -/
def aheadB (m : Nat) : UInt8 := maskB 255 m
theorem ahead_bits : ∀ m : Nat, m ≤ 8 → bits BinOp.xor IntKind.u8 IntKind.u8.max (255 / 2 ^ m) = ((aheadB m).toNat : Int) := by
  have h : ∀ m : Fin 9, bits BinOp.xor IntKind.u8 IntKind.u8.max (255 / 2 ^ m.1) = ((aheadB m.1).toNat : Int) := by decide +kernel
  intro m hm
  exact h ⟨m, by omega⟩
set_option maxHeartbeats 1000000 in
theorem aahead_any (n : Int) (w : World) :
    Calls Tryd.prog 25 #[.int .i64 n] w fun e w' => e = .returned (.int .u8 ((aheadB (min n.toNat 8)).toNat : Int)) ∧ w = w' := by
  obtain ⟨Y, hY⟩ : ∃ Y, Y = aheadB (min n.toNat 8) := ⟨_, rfl⟩
  rw [← hY]
  have HY := Lib.hid hY
  clear hY
  by_cases h0 : n < 0
  · have HE := Lib.hid (show bits BinOp.xor IntKind.u8 IntKind.u8.max 255 = (Y.toNat : Int) by
      rw [HY.out, show min n.toNat 8 = 0 by omega]; exact ahead_bits 0 (by omega))
    have h1 : (if n < 0 then (0 : Int) else n) = 0 := if_pos h0
    have h2 : max n 0 = 0 := by omega
    have h3 : min (0 : Int) 8 = 0 := by omega
    go_enter Tryd.func25, Tryd.ntmps25
    go_wp2
    go_ret
    exact ⟨by rw [← HE.out]; rfl, rfl⟩
  · by_cases h8 : 8 < n
    · have HE := Lib.hid (show bits BinOp.xor IntKind.u8 IntKind.u8.max 0 = (Y.toNat : Int) by
        rw [HY.out, show min n.toNat 8 = 8 by omega]; exact ahead_bits 8 (by omega))
      have h1 : (if n < 0 then (0 : Int) else n) = n := if_neg h0
      have h2 : max n 0 = n := by omega
      have h3 : min n 8 = 8 := by omega
      go_enter Tryd.func25, Tryd.ntmps25
      go_wp2
      go_ret
      exact ⟨by rw [← HE.out]; rfl, rfl⟩
    · have HE := Lib.hid (show bits BinOp.xor IntKind.u8 IntKind.u8.max (255 / 2 ^ n.toNat) = (Y.toNat : Int) by
        rw [HY.out, show min n.toNat 8 = n.toNat by omega]; exact ahead_bits _ (by omega))
      have h1 : (if n < 0 then (0 : Int) else n) = n := if_neg h0
      have h8' : n ≤ 8 := by omega
      have h0' : 0 ≤ n := by omega
      have h2 : max n 0 = n := by omega
      have h3 : min n 8 = n := by omega
      go_enter Tryd.func25, Tryd.ntmps25
      go_wp2
      go_ret
      exact ⟨by rw [← HE.out]; rfl, rfl⟩
/-- A byte's first bits, as '&' makes them. -/
theorem and_ahead : ∀ (x : UInt8) (m : Nat), m ≤ 8 → bits BinOp.and IntKind.u8 (x.toNat : Int) ((aheadB m).toNat : Int) = ((maskB x m).toNat : Int) := by
  have h : ∀ x : Fin 256, ∀ m : Fin 9, bits BinOp.and IntKind.u8 ((UInt8.ofNat x.1).toNat : Int) ((aheadB m.1).toNat : Int) = ((maskB (UInt8.ofNat x.1) m.1).toNat : Int) := by decide +kernel
  intro x m hm
  have := h ⟨x.toNat, x.toNat_lt⟩ ⟨m, by omega⟩
  rwa [UInt8.ofNat_toNat] at this
end Go.Proofs.YtflebnbpoboljaaDoor

/- LAYER 13: package net: Of. -/
namespace Go.Proofs.YtflebnbpoboljaaDoor
set_option maxRecDepth 100000
open Go Go.RowKit

set_option maxHeartbeats 4000000 in
theorem aof_bad (a : Adr) (ha : a.Ok) (n : Int) (h : ofOk a n = false) (w : World) :
    Calls Tryd.prog 9 #[.agg (adrV a).toArray, .int .i64 n] w fun e w' => e = .returned (.tuple #[.agg (rngV zeroR).toArray, .bool false]) ∧ Below w.heap.size w w' := by
  have HC := ofOk_cases a n h
  have hck := Lib.hid (fun w' => acheck_any a ha w')
  have hms := Lib.hid (fun w' => amost_any a w')
  obtain ⟨V, hV⟩ : ∃ V, V = adrV a := ⟨_, rfl⟩
  obtain ⟨Z, hZ⟩ : ∃ Z, Z = rngV zeroR := ⟨_, rfl⟩
  have hzV := Lib.hid (show (Tryd.prog.info? 24).map (·.size) = some V.length by rw [hV, length_adrV ha]; exact size_adr)
  have hzZ := Lib.hid (show (Tryd.prog.info? 26).map (·.size) = some Z.toArray.size by rw [hZ, List.size_toArray, length_rngV' _ zeroA_ok]; exact size_rng)
  have hZ1 := Lib.hid (show Z.toArray.all (·.oneCell') = true by rw [hZ]; exact rngV_one' _)
  obtain ⟨w1, hw1⟩ : ∃ w1, w1 = (w.alloc (.cells V.toArray 24)).alloc (.cells Z.toArray 26) := ⟨_, rfl⟩
  obtain ⟨r1, q1, hb1, -⟩ := two_rows hw1.symm
  have hZe := Lib.hid (hZ.trans rngV_zero)
  have hw1' : w1 = (w.alloc (.cells V.toArray 24)).alloc (.cells #[Value.bool false, .int .u8 0, .int .u8 0, .int .u8 0, .int .u8 0, .int .u8 0, .int .u8 0, .int .u8 0, .int .u8 0, .int .u8 0, .int .u8 0, .int .u8 0, .int .u8 0, .int .u8 0, .int .u8 0, .int .u8 0, .int .u8 0, .int .i64 0] 26) := by rw [hw1, hZe.out]
  have HW := Lib.hid hw1'
  rw [← hV] at hck hms ⊢
  rw [← hZ]
  clear hV hZ h hw1 hw1'
  generalize mostA a.v6 = m at *
  generalize checkA a = ck at *
  have tok1 : True := trivial
  rcases HC with rfl | ⟨rfl, h0⟩ | ⟨rfl, h0, hM⟩
  · go_enter Tryd.func9, Tryd.ntmps9
    go_wp2_with (first
      | (have _t := tok1; rw [← HW.out]; clear tok1; with_reducible refine wpList_load_mid rfl 24 (.tmp 2) rfl w.heap.size 0 rfl V _ (row_range r1) Tryd.underlying24 rfl hzV.out ?_)
      | (go_at_call 23; refine (hck.out _).mono ?_; rintro e w2 ⟨rfl, hb2⟩; have r2 := r1.later hb2 r1.lt; have q2 := q1.later hb2 q1.lt; have hb2 := hb1.trans (hb2.mono hb1.size); have Q2 := Lib.hid (show w2.heap[w.heap.size + 1]? = some (.cells Z.toArray 26 (0, 0)) from q2); clear q2)
      | (have _t := Q2; refine wpList_store_row rfl 26 (.tmp 4) (.tmp 20) rfl (w.heap.size + 1) Z.toArray rfl (by rw [hZe.out]; rfl) 26 Z.toArray Q2.out hzZ.out rfl hZ1.out ?_; refine Hid.out ?_))
    refine Lib.hid ?_
    generalize hw8 : World.setRow _ _ _ = w8
    obtain ⟨r8, hg8⟩ := row_set (show Row w2 (w.heap.size + 1) 26 Z from Q2.out) hw8
    have hb8 := hb2.grown hg8 hb2.size (fun k h => by cases h; omega)
    have R8 := Lib.hid (show w8.heap[w.heap.size + 1]? = some (.cells Z.toArray 26 (0, 0)) from r8)
    clear hw8 r8 hg8 Q2
    go_wp2_with fail
    exact ⟨rfl, _, results_row_tmp rfl _ _ (w.heap.size + 1) 26 Z.toArray (0, 0) _ rfl R8.out Tryd.underlying26 rfl hzZ.out _ rfl, rfl, hb8⟩
  · have hd0 : decide (n < 0) = true := decide_eq_true h0
    clear h0
    go_enter Tryd.func9, Tryd.ntmps9
    go_wp2_with (first
      | (have _t := tok1; rw [← HW.out]; clear tok1; with_reducible refine wpList_load_mid rfl 24 (.tmp 2) rfl w.heap.size 0 rfl V _ (row_range r1) Tryd.underlying24 rfl hzV.out ?_)
      | (go_at_call 23; refine (hck.out _).mono ?_; rintro e w2 ⟨rfl, hb2⟩; have r2 := r1.later hb2 r1.lt; have q2 := q1.later hb2 q1.lt; have hb2 := hb1.trans (hb2.mono hb1.size); have Q2 := Lib.hid (show w2.heap[w.heap.size + 1]? = some (.cells Z.toArray 26 (0, 0)) from q2); clear q2)
      | (have _t := Q2; refine wpList_store_row rfl 26 (.tmp 4) (.tmp 20) rfl (w.heap.size + 1) Z.toArray rfl (by rw [hZe.out]; rfl) 26 Z.toArray Q2.out hzZ.out rfl hZ1.out ?_; refine Hid.out ?_))
    refine Lib.hid ?_
    generalize hw8 : World.setRow _ _ _ = w8
    obtain ⟨r8, hg8⟩ := row_set (show Row w2 (w.heap.size + 1) 26 Z from Q2.out) hw8
    have hb8 := hb2.grown hg8 hb2.size (fun k h => by cases h; omega)
    have R8 := Lib.hid (show w8.heap[w.heap.size + 1]? = some (.cells Z.toArray 26 (0, 0)) from r8)
    clear hw8 r8 hg8 Q2
    go_wp2_with fail
    exact ⟨rfl, _, results_row_tmp rfl _ _ (w.heap.size + 1) 26 Z.toArray (0, 0) _ rfl R8.out Tryd.underlying26 rfl hzZ.out _ rfl, rfl, hb8⟩
  · have hd0 : decide (n < 0) = false := decide_eq_false (by omega)
    have hdM : decide ((m : Int) < n) = true := decide_eq_true hM
    clear h0 hM
    go_enter Tryd.func9, Tryd.ntmps9
    go_wp2_with (first
      | (have _t := tok1; rw [← HW.out]; clear tok1; with_reducible refine wpList_load_mid rfl 24 (.tmp 2) rfl w.heap.size 0 rfl V _ (row_range r1) Tryd.underlying24 rfl hzV.out ?_)
      | (go_at_call 23; refine (hck.out _).mono ?_; rintro e w2 ⟨rfl, hb2⟩; have r2 := r1.later hb2 r1.lt; have q2 := q1.later hb2 q1.lt; have hb2 := hb1.trans (hb2.mono hb1.size))
      | (refine wpList_step fun K hK => ?_; refine step_load_mid (some 16) rfl (by rfl) 24 (.tmp 2) rfl w.heap.size 0 rfl V _ (row_range r2) Tryd.underlying24 rfl hzV.out ?_; refine hK _ _ ?_; clear hK)
      | (go_at_call 24; refine (hms.out _).mono ?_; rintro e w3 ⟨rfl, hb3⟩; have r3 := r2.later hb3 r2.lt; have q3 := (show Row w2 (w.heap.size + 1) 26 Z from q2).later hb3 (Row.lt q2); have hb3 := hb2.trans (hb3.mono hb2.size); have Q3 := Lib.hid (show w3.heap[w.heap.size + 1]? = some (.cells Z.toArray 26 (0, 0)) from q3); clear q3)
      | (have _t := Q3; refine wpList_store_row rfl 26 (.tmp 4) (.tmp 20) rfl (w.heap.size + 1) Z.toArray rfl (by rw [hZe.out]; rfl) 26 Z.toArray Q3.out hzZ.out rfl hZ1.out ?_; refine Hid.out ?_))
    refine Lib.hid ?_
    generalize hw8 : World.setRow _ _ _ = w8
    obtain ⟨r8, hg8⟩ := row_set (show Row w3 (w.heap.size + 1) 26 Z from Q3.out) hw8
    have hb8 := hb3.grown hg8 hb3.size (fun k h => by cases h; omega)
    have R8 := Lib.hid (show w8.heap[w.heap.size + 1]? = some (.cells Z.toArray 26 (0, 0)) from r8)
    clear hw8 r8 hg8 Q3
    go_wp2_with fail
    exact ⟨rfl, _, results_row_tmp rfl _ _ (w.heap.size + 1) 26 Z.toArray (0, 0) _ rfl R8.out Tryd.underlying26 rfl hzZ.out _ rfl, rfl, hb8⟩
set_option maxHeartbeats 4000000 in
theorem aof_good (a : Adr) (ha : a.Ok) (n : Int) (h : ofOk a n = true) (w : World) :
    Calls Tryd.prog 9 #[.agg (adrV a).toArray, .int .i64 n] w fun e w' => e = .returned (.tuple #[.agg (rngV ⟨topA a n, n⟩).toArray, .bool true]) ∧ Below w.heap.size w w' := by
  obtain ⟨hc, h0, hM⟩ := (ofOk_iff a n).1 h
  have hm := mostA_le a.v6
  have hck := Lib.hid (fun w' => acheck_any a ha w')
  rw [hc] at hck
  have hms := Lib.hid (fun w' => amost_any a w')
  obtain ⟨V, hV⟩ : ∃ V, V = adrV a := ⟨_, rfl⟩
  obtain ⟨Z, hZ⟩ : ∃ Z, Z = rngV zeroR := ⟨_, rfl⟩
  obtain ⟨X, hX⟩ : ∃ X, X = rngV ⟨topA a n, n⟩ := ⟨_, rfl⟩
  have hzV := Lib.hid (show (Tryd.prog.info? 24).map (·.size) = some V.length by rw [hV, length_adrV ha]; exact size_adr)
  have hzX := Lib.hid (show (Tryd.prog.info? 26).map (·.size) = some X.toArray.size by rw [hX, List.size_toArray, length_rngV' _ (topA_ok a n)]; exact size_rng)
  have hX1 := Lib.hid (show X.toArray.all (·.oneCell') = true by rw [hX]; exact rngV_one' _)
  have hZX := Lib.hid (show Z.toArray.size = X.toArray.size by rw [hX, hZ, List.size_toArray, List.size_toArray, length_rngV' _ (topA_ok a n), length_rngV' _ zeroA_ok])
  have HV := Lib.hid (show V = adrV ⟨a.v6, midL a.b n.toNat 0⟩ by rw [midL_zero]; exact hV)
  have HT := Lib.hid (fun k (hk : k < 16) => And.intro (midL_succ a.b ha n.toNat k) (getD_midL a.b n.toNat k hk))
  have HTb := Lib.hid (length_midL a.b ha n.toNat)
  have HXe := Lib.hid (show X = adrV ⟨a.v6, midL a.b n.toNat 16⟩ ++ [Value.int .i64 n] by rw [midL_all _ ha]; exact hX)
  have HTl := Lib.hid (fun k => length_adrV (a := ⟨a.v6, midL a.b n.toNat k⟩) (HTb.out k))
  obtain ⟨w1, hw1⟩ : ∃ w1, w1 = (w.alloc (.cells V.toArray 24)).alloc (.cells Z.toArray 26) := ⟨_, rfl⟩
  obtain ⟨r1, q1, hb1, -⟩ := two_rows hw1.symm
  have hw1' : w1 = (w.alloc (.cells V.toArray 24)).alloc (.cells #[Value.bool false, .int .u8 0, .int .u8 0, .int .u8 0, .int .u8 0, .int .u8 0, .int .u8 0, .int .u8 0, .int .u8 0, .int .u8 0, .int .u8 0, .int .u8 0, .int .u8 0, .int .u8 0, .int .u8 0, .int .u8 0, .int .u8 0, .int .i64 0] 26) := by rw [hw1, hZ, rngV_zero]
  have HW := Lib.hid hw1'
  rw [← hV] at hck hms ⊢
  rw [← hX]
  clear hV hZ hX h hw1 hw1' hc
  have hd0 : decide (n < 0) = false := decide_eq_false (by omega)
  have hdM : decide ((mostA a.v6 : Int) < n) = false := decide_eq_false (by omega)
  have HN := Lib.hid (And.intro h0 (show n ≤ 128 by omega))
  clear h0 hM hm
  generalize mostA a.v6 = m at *
  generalize a.v6 = v6 at *
  have tok1 : True := trivial
  go_enter Tryd.func9, Tryd.ntmps9
  go_wp2_with (first
      | (have _t := tok1; rw [← HW.out]; clear tok1; with_reducible refine wpList_load_mid rfl 24 (.tmp 2) rfl w.heap.size 0 rfl V _ (row_range r1) Tryd.underlying24 rfl hzV.out ?_)
      | (go_at_call 23; refine (hck.out _).mono ?_; rintro e w2 ⟨rfl, hb2⟩; have r2 := r1.later hb2 r1.lt; have q2 := q1.later hb2 q1.lt; have hb2 := hb1.trans (hb2.mono hb1.size))
      | (refine wpList_step fun K hK => ?_; refine step_load_mid (some 16) rfl (by rfl) 24 (.tmp 2) rfl w.heap.size 0 rfl V _ (row_range r2) Tryd.underlying24 rfl hzV.out ?_; refine hK _ _ ?_; clear hK)
      | (go_at_call 24; refine (hms.out _).mono ?_; rintro e w3 ⟨rfl, hb3⟩; have r3 := r2.later hb3 r2.lt; have q3 := (show Row w2 (w.heap.size + 1) 26 Z from q2).later hb3 (Row.lt q2); have hb3 := hb2.trans (hb3.mono hb2.size)))
  rw [HV.out] at r3
  clear hck hms hd0 hdM HW HV r1 r2 q1 q2
  go_loopw [21] (fun i wr => ∃ k : Nat, k ≤ 16 ∧ i = .int .i64 k ∧ Row wr (w.heap.size + 1) 26 Z ∧ Row wr w.heap.size 24 (adrV ⟨v6, midL a.b n.toNat k⟩) ∧ Below w.heap.size w wr) (fun i _ => 16 - (intOf i).toNat)
  case atStart => exact ⟨0, Nat.zero_le _, rfl, q3, r3, hb3⟩
  case round =>
    clear q3 r3 hb3
    obtain ⟨k, hk, rfl, q4, p4, hb4⟩ := hrel
    by_cases hlt : k < 16
    · have hlt' : (k : Int) < 16 := by omega
      obtain ⟨HT1, HT2⟩ := HT.out k hlt
      have hmn := HN.out
      have hah := Lib.hid (fun w' => aahead_any (n - 8 * (k : Int)) w')
      have hP1 : (adrV ⟨v6, midL a.b n.toNat k⟩)[1 + k]? = some (.int .u8 ((a.b.getD k 0).toNat : Int)) := by
        rw [← HT2, Nat.add_comm]
        show (byts (midL a.b n.toNat k))[k]? = _
        rw [get_byts _ _ (by rw [HTb.out]; omega)]
      have hP2 : (adrV ⟨v6, midL a.b n.toNat k⟩).set (1 + k) (.int .u8 ((maskB (a.b.getD k 0) (min (n.toNat - 8 * k) 8)).toNat : Int)) = adrV ⟨v6, midL a.b n.toNat (k + 1)⟩ := by
        rw [HT1]; exact adrV_set _ _ _ _
      have hand := and_ahead (a.b.getD k 0) (min (n.toNat - 8 * k) 8) (by omega)
      have e8 : (n - 8 * (k : Int)).toNat = n.toNat - 8 * k := by omega
      rw [e8] at hah
      obtain ⟨P, hP⟩ : ∃ P, P = adrV ⟨v6, midL a.b n.toNat k⟩ := ⟨_, rfl⟩
      rw [← hP] at p4 hP1 hP2
      generalize maskB (a.b.getD k 0) (min (n.toNat - 8 * k) 8) = y2 at *
      generalize aheadB (min (n.toNat - 8 * k) 8) = y1 at *
      generalize a.b.getD k 0 = y at *
      have HP1 := Lib.hid hP1
      have HP2 := Lib.hid hP2
      have h8w : IntKind.i64.wrap (8 * (k : Int)) = 8 * (k : Int) := by rw [IntKind.wrap_i64]; omega
      have hsw : IntKind.i64.wrap (n - 8 * (k : Int)) = n - 8 * (k : Int) := by rw [IntKind.wrap_i64]; omega
      have hg1 : w.heap.size + 1 ≠ w.heap.size := by omega
      have HMN := Lib.hid hmn
      clear HT1 HT2 HT HTb HTl hP hP1 hP2 e8 hmn
      go_wp2
      refine wp_region_noPanic ?_
      refine wp_region_held_drew (S := fun w' => World.grownBy wr w' (some w.heap.size)) (by kernel_rfl) (grown_of_below (Below.refl _ _).drew _) (fun hHeld => ?_)
      refine rtake 0 _ (some 24) _ rfl rfl (by kernel_rfl) (by kernel_rfl) (by kernel_rfl) (fun _ _ _ h => h) (by rfl) hHeld (by intro w hS; go_simp; try with_reducible rfl) ?_
      try (first | (rw [put_some]; dsimp only [List.set]) | rw [put_none])
      refine rtake 1 _ (some 25) _ rfl rfl (by kernel_rfl) (by kernel_rfl) (by kernel_rfl) (fun _ _ _ h => h) (by rfl) hHeld (by intro w hS; go_simp; try with_reducible rfl) ?_
      try (first | (rw [put_some]; dsimp only [List.set]) | rw [put_none])
      refine rtake 2 _ (some 26) _ rfl rfl (by kernel_rfl) (by kernel_rfl) (by kernel_rfl) (fun _ _ _ h => h) (by rfl) hHeld (by intro w hS; go_simp; try with_reducible rfl) ?_
      try (first | (rw [put_some]; dsimp only [List.set]) | rw [put_none])
      refine rtake 4 _ (some 28) _ rfl rfl (by kernel_rfl) (by kernel_rfl) (by kernel_rfl) (fun _ _ _ h => h) (by rfl) hHeld (by intro w hS; go_simp; try with_reducible rfl) ?_
      try (first | (rw [put_some]; dsimp only [List.set]) | rw [put_none])
      refine rtake 5 _ (some 29) _ rfl rfl (by kernel_rfl) (by kernel_rfl) (by kernel_rfl) (fun _ _ _ h => h) (by rfl) hHeld (by intro w hS; go_simp; try with_reducible rfl) ?_
      try (first | (rw [put_some]; dsimp only [List.set]) | rw [put_none])
      refine rtake 6 _ (some 30) _ rfl rfl (by kernel_rfl) (by kernel_rfl) (by kernel_rfl) (fun _ _ _ h => h) (by rfl) hHeld (by intro w hS; go_simp; try with_reducible rfl) ?_
      try (first | (rw [put_some]; dsimp only [List.set]) | rw [put_none])
      refine rtake 7 _ (some 31) _ rfl rfl (by kernel_rfl) (by kernel_rfl) (by kernel_rfl) (fun _ _ _ h => h) (by rfl) hHeld (by intro w hS; go_simp; try with_reducible rfl) ?_
      try (first | (rw [put_some]; dsimp only [List.set]) | rw [put_none])
      refine rtake 10 _ (some 34) _ rfl rfl (by kernel_rfl) (by kernel_rfl) (by kernel_rfl) (fun _ _ _ h => h) (by rfl) hHeld (by intro w hS; go_simp; try with_reducible rfl) ?_
      try (first | (rw [put_some]; dsimp only [List.set]) | rw [put_none])
      refine wpAnyH_ready (rs := [3, 8]) (by kernel_rfl) (by simp) (AllReadyH.cons (o := _) rfl (fun K hK => ?_) (AllReadyH.cons (o := _) rfl (fun K hK => ?_) AllReadyH.nil))
      · have hpc := (Row.cell p4.drew (1 + k)).trans HP1.out
        go_simp
        refine hK.out _ _ hHeld (fun hHeld' => ?_)
        clear hK K hpc
        try (first | (rw [put_some]; dsimp only [List.set]) | rw [put_none])
        refine wpAnyH_ready (rs := [8]) (by kernel_rfl) (by simp) (AllReadyH.cons (o := _) rfl (fun K hK => ?_) AllReadyH.nil)
        go_simp
        refine (hah.out _).mono ?_; rintro e w5 ⟨rfl, rfl⟩
        try go_wp2_with fail
        refine hK.out _ _ hHeld (fun hHeld' => ?_)
        clear hK K
        try (first | (rw [put_some]; dsimp only [List.set]) | rw [put_none])
        refine rtake 9 _ (some 33) _ rfl rfl (by kernel_rfl) (by kernel_rfl) (by kernel_rfl) (fun _ _ _ h => h) (by rfl) hHeld (by intro w hS; go_simp; try with_reducible rfl) ?_
        try (first | (rw [put_some]; dsimp only [List.set]) | rw [put_none])
        refine rtake 11 _ (some 35) _ rfl rfl (by kernel_rfl) (by kernel_rfl) (by kernel_rfl) (fun _ _ _ h => h) (by rfl) hHeld (by intro w hS; go_simp; try with_reducible rfl) ?_
        try (first | (rw [put_some]; dsimp only [List.set]) | rw [put_none])
        have hpc := (Row.cell p4.drew (1 + k)).trans HP1.out
        have hpf := Row.free p4.drew (1 + k)
        refine wpAnyH_ready (rs := [12]) (by kernel_rfl) (by simp) (AllReadyH.cons (o := _) rfl (fun K hK => ?_) AllReadyH.nil)
        go_simp
        refine hK.out _ _ (grown_trans hHeld (grown_setCell _ _ _ _)) (fun _ => ?_)
        clear hK K hpc hpf
        try (first | (rw [put_some]; dsimp only [List.set]) | rw [put_none])
        refine wpAnyH_done (by kernel_rfl) ?_ _
        refine NoPanic.normal ?_
        have p6 := Row.set p4.drew (1 + k) (.int .u8 (y2.toNat : Int))
        rw [HP2.out] at p6
        have hg5 := grown_trans hHeld (grown_setCell wr.drew w.heap.size (1 + k) (.int .u8 (y2.toNat : Int)))
        have q6 := q4.grown hg5 hg1
        have hb6 := hb4.grown hg5 hb4.size (fun k h => by cases h; exact Nat.le_refl _)
        clear hHeld hHeld' hg5 q4 p4 hb4
        go_wp2
        go_roundw
        case rel => exact ⟨k + 1, by omega, by go_num, q6, p6, hb6⟩
        case measure => simp [intOf]; omega
      · go_simp
        refine (hah.out _).mono ?_; rintro e w5 ⟨rfl, rfl⟩
        try go_wp2_with fail
        refine hK.out _ _ hHeld (fun hHeld' => ?_)
        clear hK K
        try (first | (rw [put_some]; dsimp only [List.set]) | rw [put_none])
        refine wpAnyH_ready (rs := [3]) (by kernel_rfl) (by simp) (AllReadyH.cons (o := _) rfl (fun K hK => ?_) AllReadyH.nil)
        have hpc := (Row.cell p4.drew (1 + k)).trans HP1.out
        go_simp
        refine hK.out _ _ hHeld (fun hHeld' => ?_)
        clear hK K hpc
        try (first | (rw [put_some]; dsimp only [List.set]) | rw [put_none])
        refine rtake 9 _ (some 33) _ rfl rfl (by kernel_rfl) (by kernel_rfl) (by kernel_rfl) (fun _ _ _ h => h) (by rfl) hHeld (by intro w hS; go_simp; try with_reducible rfl) ?_
        try (first | (rw [put_some]; dsimp only [List.set]) | rw [put_none])
        refine rtake 11 _ (some 35) _ rfl rfl (by kernel_rfl) (by kernel_rfl) (by kernel_rfl) (fun _ _ _ h => h) (by rfl) hHeld (by intro w hS; go_simp; try with_reducible rfl) ?_
        try (first | (rw [put_some]; dsimp only [List.set]) | rw [put_none])
        have hpc := (Row.cell p4.drew (1 + k)).trans HP1.out
        have hpf := Row.free p4.drew (1 + k)
        refine wpAnyH_ready (rs := [12]) (by kernel_rfl) (by simp) (AllReadyH.cons (o := _) rfl (fun K hK => ?_) AllReadyH.nil)
        go_simp
        refine hK.out _ _ (grown_trans hHeld (grown_setCell _ _ _ _)) (fun _ => ?_)
        clear hK K hpc hpf
        try (first | (rw [put_some]; dsimp only [List.set]) | rw [put_none])
        refine wpAnyH_done (by kernel_rfl) ?_ _
        refine NoPanic.normal ?_
        have p6 := Row.set p4.drew (1 + k) (.int .u8 (y2.toNat : Int))
        rw [HP2.out] at p6
        have hg5 := grown_trans hHeld (grown_setCell wr.drew w.heap.size (1 + k) (.int .u8 (y2.toNat : Int)))
        have q6 := q4.grown hg5 hg1
        have hb6 := hb4.grown hg5 hb4.size (fun k h => by cases h; exact Nat.le_refl _)
        clear hHeld hHeld' hg5 q4 p4 hb4
        go_wp2
        go_roundw
        case rel => exact ⟨k + 1, by omega, by go_num, q6, p6, hb6⟩
        case measure => simp [intOf]; omega
    · obtain rfl : k = 16 := by omega
      have HPl := Lib.hid (HTl.out 16)
      have hzP := Lib.hid (show (Tryd.prog.info? 24).map (·.size) = some (adrV ⟨v6, midL a.b n.toNat 16⟩).length by rw [HPl.out]; exact size_adr)
      have Q4 := Lib.hid (show wr.heap[w.heap.size + 1]? = some (.cells Z.toArray 26 (0, 0)) from q4)
      obtain ⟨P, hP⟩ : ∃ P, P = adrV ⟨v6, midL a.b n.toNat 16⟩ := ⟨_, rfl⟩
      rw [← hP] at p4 HPl hzP HXe
      clear hP HT HTb HTl q4
      go_wp2_with (first
        | (with_reducible refine wpList_load_mid rfl 24 (.tmp 2) rfl w.heap.size 0 rfl P _ (row_range p4) Tryd.underlying24 rfl hzP.out ?_)
        | (refine wpList_build2 rfl 26 0 1 (.tmp 37) (.tmp 38) rfl (.agg P.toArray) (.int .i64 n) (.agg X.toArray) rfl rfl (by rw [HXe.out]; exact build_rng P n HPl.out _) ?_)
        | (with_reducible refine wpList_store_row rfl 26 (.tmp 4) (.tmp 39) rfl (w.heap.size + 1) X.toArray rfl rfl 26 Z.toArray Q4.out hzX.out hZX.out hX1.out ?_; refine Hid.out ?_))
      refine Lib.hid ?_
      generalize hw8 : World.setRow _ _ _ = w8
      obtain ⟨r8, hg8⟩ := row_set (show Row wr (w.heap.size + 1) 26 Z from Q4.out) hw8
      have hb8 := hb4.grown hg8 hb4.size (fun k h => by cases h; omega)
      have R8 := Lib.hid (show w8.heap[w.heap.size + 1]? = some (.cells X.toArray 26 (0, 0)) from r8)
      clear hw8 r8 hg8 Q4
      go_wp2_with fail
      exact ⟨rfl, _, results_row_tmp rfl _ _ (w.heap.size + 1) 26 X.toArray (0, 0) _ rfl R8.out Tryd.underlying26 rfl hzX.out _ rfl, rfl, hb8⟩
theorem aof_any (a : Adr) (ha : a.Ok) (n : Int) (w : World) :
    Calls Tryd.prog 9 #[.agg (adrV a).toArray, .int .i64 n] w fun e w' => e = .returned (.tuple #[.agg (rngV (ofR a n)).toArray, .bool (ofOk a n)]) ∧ Below w.heap.size w w' := by
  cases h : ofOk a n with
  | true => rw [ofR_good a n h]; exact aof_good a ha n h w
  | false => rw [ofR_bad a n h]; exact aof_bad a ha n h w
end Go.Proofs.YtflebnbpoboljaaDoor

/- LAYER 12: the law's addrAlive; addresses compared. -/
namespace Go.Proofs.YtflebnbpoboljaaDoor
set_option maxRecDepth 100000
open Go Go.RowKit

theorem text_ex1 : textA (sixA [8193, 3512, 0, 0, 0, 0, 0, 1]) = [50, 48, 48, 49, 58, 100, 98, 56, 58, 58, 49] := by decide +kernel
theorem text_ex2 : textA (sixA [0, 0, 0, 0, 0, 0, 0, 0]) = [58, 58] := by decide +kernel
theorem part_v6 (a : Adr) (w : World) : (Go.part 4 (adrV a).toArray 0).run Tryd.prog w = .ok (.bool a.v6) w := by
  simp only [Go.part, isAgg, Sem.run_bind, run_underlying Tryd.underlying4, Result.andThen_ok, Sem.run_pure]
  rfl
theorem isAgg16 (w : World) : (isAgg 22).run Tryd.prog w = .ok true w := by kernel_rfl
theorem sizeOf16 (w : World) : (sizeOf 22).run Tryd.prog w = .ok 16 w := by kernel_rfl
theorem part_b (a : Adr) (h : a.Ok) (w : World) : (Go.part 22 (adrV a).toArray 1).run Tryd.prog w = .ok (.agg (byts a.b).toArray) w := by
  have e : (adrV a).toArray.extract 1 17 = (byts a.b).toArray := by
    rw [List.extract_toArray]
    unfold adrV
    congr 1
    show (byts a.b).take 16 = byts a.b
    exact List.take_of_length_le (by rw [length_byts, h]; exact Nat.le_refl _)
  simp only [Go.part, Sem.run_bind, isAgg16, Result.andThen_ok, if_true, sizeOf16, Sem.run_pure]
  rw [e]
theorem run_items_d (d : Nat) (xs ys : List UInt8) (is : List Nat) (hx : ∀ i ∈ is, i < xs.length) (hy : ∀ i ∈ is, i < ys.length) (w : World) :
    (Op.eqItems (d + 1) 5 1 (byts xs).toArray (byts ys).toArray is).run Tryd.prog w = .ok (is.all fun i => decide (xs.getD i 0 = ys.getD i 0)) w := by
  induction is with
  | nil => simp [Op.eqItems]
  | cons i is ih =>
    have h := ih (fun j hj => hx j (by simp [hj])) (fun j hj => hy j (by simp [hj]))
    simp only [Op.eqItems, Sem.run_bind, part_byte xs i (hx i (by simp)) w, part_byte ys i (hy i (by simp)) w, Result.andThen_ok, run_equalIn_int w d 5 .u8 .u8 _ _ Tryd.underlying5, List.all_cons]
    generalize xs.getD i 0 = a
    generalize ys.getD i 0 = b
    by_cases e : a = b
    · subst e
      simp only [BEq.rfl, Bool.not_true, Bool.false_eq_true, if_false, decide_true, Bool.true_and, h]
    · have e' : ((a.toNat : Int) == (b.toNat : Int)) = false := by
        rw [beq_eq_false_iff_ne]
        intro h
        exact e (UInt8.toNat_inj.1 (by omega))
      simp only [e', e, Bool.not_false, if_true, decide_false, Bool.false_and, Sem.run_pure]
/-- Two addresses, compared. -/
theorem eq_adr (a b : Adr) (ha : a.Ok) (hb : b.Ok) (w : World) : (Op.equalIn 10000 24 (.agg (adrV a).toArray) (.agg (adrV b).toArray)).run Tryd.prog w = .ok (a.v6 == b.v6 && decide (a.b = b.b)) w := by
  rw [run_equalIn_struct w 9999 24 _ _ (by kernel_rfl) (by kernel_rfl)]
  obtain ⟨i0, hi, _⟩ := info_parts infoByte
  have h16 : (Op.equalIn 9999 22 (.agg (byts a.b).toArray) (.agg (byts b.b).toArray)).run Tryd.prog w = .ok (decide (a.b = b.b)) w := by
    rw [run_equalIn_array w 9998 _ _ Tryd.underlying22 hi, cells_byte, run_items_d 9997 a.b b.b (List.range 16) (fun i h => by rw [ha]; simpa using h) (fun i h => by rw [hb]; simpa using h) w]
    have := all_getD a.b b.b (by rw [ha, hb])
    rw [ha] at this
    rw [this]
  have hb4 := run_equalIn_bool' (P := Tryd.prog) w 9998 4 a.v6 b.v6 Tryd.underlying4
  cases hv : (a.v6 == b.v6) <;> cases hd : decide (a.b = b.b) <;> rw [hv] at hb4 <;> rw [hd] at h16 <;>
    simp [Program.fieldsOf, Tryd.underlying24, Op.eqFields, Sem.run_bind, part_v6, part_b a ha, part_b b hb, hb4, h16]
end Go.Proofs.YtflebnbpoboljaaDoor

/- LAYER 13: package net: Has, Check, Within; ranges compared. -/
namespace Go.Proofs.YtflebnbpoboljaaDoor
set_option maxRecDepth 100000
open Go Go.RowKit

/-- Two addresses, compared inside something else. -/
theorem eq_adr9 (a b : Adr) (ha : a.Ok) (hb : b.Ok) (w : World) : (Op.equalIn 9999 24 (.agg (adrV a).toArray) (.agg (adrV b).toArray)).run Tryd.prog w = .ok (a.v6 == b.v6 && decide (a.b = b.b)) w := by
  rw [run_equalIn_struct w 9998 24 _ _ (by kernel_rfl) (by kernel_rfl)]
  obtain ⟨i0, hi, _⟩ := info_parts infoByte
  have h16 : (Op.equalIn 9998 22 (.agg (byts a.b).toArray) (.agg (byts b.b).toArray)).run Tryd.prog w = .ok (decide (a.b = b.b)) w := by
    rw [run_equalIn_array w 9997 _ _ Tryd.underlying22 hi, cells_byte, run_items_d 9996 a.b b.b (List.range 16) (fun i h => by rw [ha]; simpa using h) (fun i h => by rw [hb]; simpa using h) w]
    have := all_getD a.b b.b (by rw [ha, hb])
    rw [ha] at this
    rw [this]
  have hb4 := run_equalIn_bool' (P := Tryd.prog) w 9997 4 a.v6 b.v6 Tryd.underlying4
  cases hv : (a.v6 == b.v6) <;> cases hd : decide (a.b = b.b) <;> rw [hv] at hb4 <;> rw [hd] at h16 <;>
    simp [Program.fieldsOf, Tryd.underlying24, Op.eqFields, Sem.run_bind, part_v6, part_b a ha, part_b b hb, hb4, h16]
theorem part_ra (r : Rng) (h : r.a.Ok) (w : World) : (Go.part 24 (rngV r).toArray 0).run Tryd.prog w = .ok (.agg (adrV r.a).toArray) w := by
  have e : (rngV r).toArray.extract 0 17 = (adrV r.a).toArray := by
    rw [List.extract_toArray]
    congr 1
    unfold rngV
    show (adrV r.a ++ [Value.int .i64 r.n]).take 17 = adrV r.a
    exact List.take_left' (length_adrV h)
  have h1 : (isAgg 24).run Tryd.prog w = .ok true w := by kernel_rfl
  have h2 : (sizeOf 24).run Tryd.prog w = .ok 17 w := by kernel_rfl
  simp only [Go.part, Sem.run_bind, h1, Result.andThen_ok, if_true, h2, Sem.run_pure]
  rw [e]
theorem part_rn (r : Rng) (h : r.a.Ok) (w : World) : (Go.part 3 (rngV r).toArray 17).run Tryd.prog w = .ok (.int .i64 r.n) w := by
  have e : (rngV r).toArray[17]? = some (.int .i64 r.n) := by
    rw [List.getElem?_toArray]
    unfold rngV
    rw [List.getElem?_append_right (by rw [length_adrV h]; exact Nat.le_refl _), length_adrV h]; rfl
  simp only [Go.part, isAgg, Sem.run_bind, run_underlying Tryd.underlying3, Result.andThen_ok, Sem.run_pure]
  rw [if_neg (by decide), e]; rfl
/-- Two ranges, compared. -/
theorem eq_rng (a b : Rng) (ha : a.a.Ok) (hb : b.a.Ok) (w : World) : (Op.equalIn 10000 26 (.agg (rngV a).toArray) (.agg (rngV b).toArray)).run Tryd.prog w = .ok ((a.a.v6 == b.a.v6 && decide (a.a.b = b.a.b)) && a.n == b.n) w := by
  rw [run_equalIn_struct w 9999 26 _ _ (by kernel_rfl) (by kernel_rfl)]
  have h1 := eq_adr9 a.a b.a ha hb w
  have h2 := run_equalIn_int (P := Tryd.prog) w 9998 3 .i64 .i64 a.n b.n Tryd.underlying3
  cases hv : (a.a.v6 == b.a.v6 && decide (a.a.b = b.a.b)) <;> cases hd : (a.n == b.n) <;> rw [hv] at h1 <;> rw [hd] at h2 <;>
    simp [Program.fieldsOf, Tryd.underlying26, Op.eqFields, Sem.run_bind, part_ra a ha, part_ra b hb, part_rn a ha, part_rn b hb, h1, h2]
theorem hasR_eq (r : Rng) (a : Adr) (h : ofOk a r.n = true) : hasR r a = ((a.v6 == r.a.v6 && decide (topL a.b r.n.toNat = r.a.b)) && r.n == r.n) := by
  unfold hasR
  rw [h, Bool.true_and, beq_self_eq_true, Bool.and_true]
set_option maxHeartbeats 4000000 in
theorem ahas_any (r : Rng) (h : r.Ok) (a : Adr) (ha : a.Ok) (w : World) :
    Calls Tryd.prog 15 #[.agg (rngV r).toArray, .agg (adrV a).toArray] w fun e w' => e = .returned (.bool (hasR r a)) ∧ Below w.heap.size w w' := by
  have hof := Lib.hid (fun w' => aof_any a ha r.n w')
  have hXo := ofR_ok a r.n h.lo h.hi
  obtain ⟨R, hR⟩ : ∃ R, R = rngV r := ⟨_, rfl⟩
  obtain ⟨X, hX⟩ : ∃ X, X = rngV (ofR a r.n) := ⟨_, rfl⟩
  obtain ⟨V2, hV2⟩ : ∃ V2, V2 = adrV a := ⟨_, rfl⟩
  have HR := Lib.hid (show R = adrV r.a ++ [Value.int .i64 r.n] by rw [hR]; rfl)
  have HRl := Lib.hid (length_adrV h.a)
  have hzA := Lib.hid (show (Tryd.prog.info? 24).map (·.size) = some V2.length by rw [hV2, length_adrV ha]; exact size_adr)
  have hzR := Lib.hid (show (Tryd.prog.info? 26).map (·.size) = some R.length by rw [hR, length_rngV' r h.a]; exact size_rng)
  have hzX := Lib.hid (show (Tryd.prog.info? 26).map (·.size) = some X.length by rw [hX, length_rngV' _ hXo.a]; exact size_rng)
  have hzX2 := Lib.hid (show (Tryd.prog.info? 26).map (·.size) = some X.toArray.size by rw [List.size_toArray]; exact hzX.out)
  have h18 := Lib.hid (show 18 = X.toArray.size by rw [hX, List.size_toArray, length_rngV' _ hXo.a])
  have hX1 := Lib.hid (show X.toArray.all (·.oneCell') = true by rw [hX]; exact rngV_one' _)
  obtain ⟨w1, hw1⟩ : ∃ w1, w1 = (w.alloc (.cells R.toArray 26)).alloc (.cells V2.toArray 24) := ⟨_, rfl⟩
  obtain ⟨r1, q1, hb1, -⟩ := two_rows hw1.symm
  have HW := Lib.hid hw1
  have hcn := rng_n' HRl.out HR.out r1
  have hEq : ofOk a r.n = true → ∀ w, (Op.equalIn 10000 26 (.agg X.toArray) (.agg R.toArray)).run Tryd.prog w = .ok (hasR r a) w := by
    intro ho w'
    rw [hX, hR, eq_rng _ _ hXo.a h.a, hasR_eq r a ho, ofR_good a r.n ho]; rfl
  rw [← hX, ← hV2] at hof
  rw [← hR, ← hV2]
  clear hR hX hV2 hw1
  have tok1 : True := trivial
  cases ho : ofOk a r.n with
  | false =>
    have HC := Lib.hid (show hasR r a = false by unfold hasR; rw [ho]; rfl)
    rw [ho] at hof
    generalize r.n = n at *
    clear hEq ho
    go_enter Tryd.func15, Tryd.ntmps15
    go_wp2_with (first
      | (have _t := tok1; rw [← HW.out]; clear tok1; with_reducible refine wpList_load_mid rfl 24 (.tmp 3) rfl (w.heap.size + 1) 0 rfl V2 _ (row_range q1) Tryd.underlying24 rfl hzA.out ?_)
      | (go_at_call 9; refine (hof.out _).mono ?_; rintro e w2 ⟨rfl, hb2⟩; have hb2 := hb1.trans (hb2.mono hb1.size))
      | (have _t := hb2; refine wpList_store_row rfl 26 (.tmp 5) (.tmp 12) rfl w2.heap.size X.toArray rfl rfl 26 _ (heap_alloc_new w2 _) hzX2.out h18.out hX1.out ?_; refine Hid.out ?_))
    refine Lib.hid ?_
    generalize hw4 : World.setRow _ _ _ = w4
    obtain ⟨-, hb4'⟩ := row_new_set (xs := X) hw4
    have hb4 := hb2.trans (hb4'.mono hb2.size)
    clear hw4 hb4'
    go_wp2_with fail
    go_ret
    exact ⟨by rw [HC.out]; rfl, hb4⟩
  | true =>
    have hEq := hEq ho
    rw [ho] at hof
    generalize r.n = n at *
    generalize hasR r a = D at *
    clear ho
    go_enter Tryd.func15, Tryd.ntmps15
    go_wp2_with (first
      | (have _t := tok1; rw [← HW.out]; clear tok1; with_reducible refine wpList_load_mid rfl 24 (.tmp 3) rfl (w.heap.size + 1) 0 rfl V2 _ (row_range q1) Tryd.underlying24 rfl hzA.out ?_)
      | (go_at_call 9; refine (hof.out _).mono ?_; rintro e w2 ⟨rfl, hb2⟩; have r2 := r1.later hb2 r1.lt; have hb2 := hb1.trans (hb2.mono hb1.size))
      | (have _t := hb2; refine wpList_store_row rfl 26 (.tmp 5) (.tmp 12) rfl w2.heap.size X.toArray rfl rfl 26 _ (heap_alloc_new w2 _) hzX2.out h18.out hX1.out ?_; refine Hid.out ?_))
    refine Lib.hid ?_
    generalize hw4 : World.setRow _ _ _ = w4
    obtain ⟨x4, hb4'⟩ := row_new_set (xs := X) hw4
    have r4 := r2.later hb4' r2.lt
    have hb4 := hb2.trans (hb4'.mono hb2.size)
    clear hw4 hb4' r1 r2 q1 hcn
    generalize w2.heap.size = g at *
    have tok2 : True := trivial
    go_wp2_with (first
      | (have _t := tok2; refine wpList_step fun K hK => ?_; refine step_load_mid (some 16) rfl (by rfl) 26 (.tmp 5) rfl g 0 rfl X _ (row_range x4) Tryd.underlying26 rfl hzX.out ?_; refine hK _ _ ?_; clear hK tok2)
      | (refine wpList_step fun K hK => ?_; refine step_load_mid (some 17) rfl (by rfl) 26 (.tmp 2) rfl w.heap.size 0 rfl R _ (row_range r4) Tryd.underlying26 rfl hzR.out ?_; refine hK _ _ ?_; clear hK))
    go_ret
    exact ⟨rfl, hb4⟩
set_option maxHeartbeats 2000000 in
theorem acheckR_any (r : Rng) (h : r.Ok) (w : World) :
    Calls Tryd.prog 11 #[.agg (rngV r).toArray] w fun e w' => e = .returned (.bool (checkR r)) ∧ Below w.heap.size w w' := by
  have hh := Lib.hid (fun w' => show Calls Tryd.prog 15 #[.agg (rngV r).toArray, .agg (adrV r.a).toArray] w' fun e w'' => e = .returned (.bool (checkR r)) ∧ Below w'.heap.size w' w'' from ahas_any r h r.a h.a w')
  obtain ⟨R, hR⟩ : ∃ R, R = rngV r := ⟨_, rfl⟩
  obtain ⟨V, hV⟩ : ∃ V, V = adrV r.a := ⟨_, rfl⟩
  have HR := Lib.hid (show R = V ++ [Value.int .i64 r.n] by rw [hR, hV]; rfl)
  have hzV := Lib.hid (show (Tryd.prog.info? 24).map (·.size) = some V.length by rw [hV, length_adrV h.a]; exact size_adr)
  have hzR := Lib.hid (show (Tryd.prog.info? 26).map (·.size) = some R.length by rw [hR, length_rngV' r h.a]; exact size_rng)
  obtain ⟨w1, hw1⟩ : ∃ w1, w1 = w.alloc (.cells R.toArray 26) := ⟨_, rfl⟩
  have r1 : Row w1 w.heap.size 26 R := by rw [hw1]; exact Row.new w _ _
  have hb1 : Below w.heap.size w w1 := by rw [hw1]; exact (Below.refl _ w).alloc (Nat.le_refl _) _
  have HW := Lib.hid hw1
  rw [← hR, ← hV] at hh
  rw [← hR]
  clear hR hV hw1
  generalize checkR r = D at *
  have tok1 : True := trivial
  go_enter Tryd.func11, Tryd.ntmps11
  go_wp2_with (first
    | (have _t := tok1; rw [← HW.out]; clear tok1; with_reducible refine wpList_load_mid rfl 26 (.tmp 1) rfl w.heap.size 0 rfl R _ (row_range r1) Tryd.underlying26 rfl hzR.out ?_)
    | (with_reducible refine wpList_load_mid rfl 24 (.tmp 4) rfl w.heap.size 0 rfl V _ (row_part' HR.out r1) Tryd.underlying24 rfl hzV.out ?_)
    | (go_at_call 15; refine (hh.out _).mono ?_; rintro e w2 ⟨rfl, hb2⟩; have hb2 := hb1.trans (hb2.mono hb1.size)))
  go_ret
  exact ⟨rfl, hb2⟩
set_option maxHeartbeats 2000000 in
theorem awithin_any (a b : Rng) (ha : a.Ok) (hb : b.Ok) (w : World) :
    Calls Tryd.prog 17 #[.agg (rngV a).toArray, .agg (rngV b).toArray] w fun e w' => e = .returned (.bool (withinR a b)) ∧ Below w.heap.size w w' := by
  have hck := Lib.hid (fun w' => acheckR_any a ha w')
  have hh := Lib.hid (fun w' => ahas_any b hb a.a ha.a w')
  have HF := Lib.hid (show withinR a b = (checkR a && decide (b.n ≤ a.n) && hasR b a.a) from rfl)
  obtain ⟨R, hR⟩ : ∃ R, R = rngV a := ⟨_, rfl⟩
  obtain ⟨R2, hR2⟩ : ∃ R2, R2 = rngV b := ⟨_, rfl⟩
  obtain ⟨V, hV⟩ : ∃ V, V = adrV a.a := ⟨_, rfl⟩
  have HR := Lib.hid (show R = V ++ [Value.int .i64 a.n] by rw [hR, hV]; rfl)
  have HR2 := Lib.hid (show R2 = adrV b.a ++ [Value.int .i64 b.n] by rw [hR2]; rfl)
  have HVl := Lib.hid (show V.length = 17 by rw [hV]; exact length_adrV ha.a)
  have HV2l := Lib.hid (length_adrV hb.a)
  have hzV := Lib.hid (show (Tryd.prog.info? 24).map (·.size) = some V.length by rw [HVl.out]; exact size_adr)
  have hzR := Lib.hid (show (Tryd.prog.info? 26).map (·.size) = some R.length by rw [hR, length_rngV' a ha.a]; exact size_rng)
  have hzR2 := Lib.hid (show (Tryd.prog.info? 26).map (·.size) = some R2.length by rw [hR2, length_rngV' b hb.a]; exact size_rng)
  obtain ⟨w1, hw1⟩ : ∃ w1, w1 = (w.alloc (.cells R.toArray 26)).alloc (.cells R2.toArray 26) := ⟨_, rfl⟩
  obtain ⟨r1, q1, hb1, -⟩ := two_rows hw1.symm
  have HW := Lib.hid hw1
  rw [← hR] at hck
  rw [← hR2, ← hV] at hh
  rw [← hR, ← hR2]
  clear hR hV hR2 hw1
  have tok1 : True := trivial
  cases hc : checkR a with
  | false =>
    have HC := Lib.hid (show withinR a b = false by rw [HF.out, hc]; rfl)
    rw [hc] at hck
    clear hc HF
    go_enter Tryd.func17, Tryd.ntmps17
    go_wp2_with (first
      | (have _t := tok1; rw [← HW.out]; clear tok1; with_reducible refine wpList_load_mid rfl 26 (.tmp 2) rfl w.heap.size 0 rfl R _ (row_range r1) Tryd.underlying26 rfl hzR.out ?_)
      | (go_at_call 11; refine (hck.out _).mono ?_; rintro e w2 ⟨rfl, hb2⟩; have hb2 := hb1.trans (hb2.mono hb1.size)))
    go_ret
    exact ⟨by rw [HC.out]; rfl, hb2⟩
  | true =>
    rw [hc] at hck HF
    by_cases hn : b.n ≤ a.n
    · have HC := Lib.hid (show withinR a b = hasR b a.a by rw [HF.out, decide_eq_true hn]; rfl)
      have hdn : decide (b.n ≤ a.n) = true := decide_eq_true hn
      generalize hasR b a.a = D at *
      generalize a.n = n at *
      generalize b.n = m at *
      clear hc HF hn
      go_enter Tryd.func17, Tryd.ntmps17
      go_wp2_with (first
        | (have _t := tok1; rw [← HW.out]; clear tok1; with_reducible refine wpList_load_mid rfl 26 (.tmp 2) rfl w.heap.size 0 rfl R _ (row_range r1) Tryd.underlying26 rfl hzR.out ?_)
        | (go_at_call 11; refine (hck.out _).mono ?_; rintro e w2 ⟨rfl, hb2⟩; have r2 := r1.later hb2 r1.lt; have q2 := q1.later hb2 q1.lt; have hb2 := hb1.trans (hb2.mono hb1.size); have hc1 := rng_n' HVl.out HR.out r2; have hc2 := rng_n' HV2l.out HR2.out q2)
        | (refine wpList_step fun K hK => ?_; refine step_load_mid (some 15) rfl (by rfl) 26 (.tmp 3) rfl (w.heap.size + 1) 0 rfl R2 _ (row_range q2) Tryd.underlying26 rfl hzR2.out ?_; refine hK _ _ ?_; clear hK)
        | (refine wpList_step fun K hK => ?_; refine step_load_mid (some 17) rfl (by rfl) 24 (.tmp 16) rfl w.heap.size 0 rfl V _ (row_part' HR.out r2) Tryd.underlying24 rfl hzV.out ?_; refine hK _ _ ?_; clear hK)
        | (go_at_call 15; refine (hh.out _).mono ?_; rintro e w3 ⟨rfl, hb3⟩; have hb3 := hb2.trans (hb3.mono hb2.size)))
      go_ret
      exact ⟨by rw [HC.out]; rfl, hb3⟩
    · have HC := Lib.hid (show withinR a b = false by rw [HF.out, decide_eq_false hn]; rfl)
      have hdn : decide (b.n ≤ a.n) = false := decide_eq_false hn
      generalize a.n = n at *
      generalize b.n = m at *
      clear hc HF hn hh
      go_enter Tryd.func17, Tryd.ntmps17
      go_wp2_with (first
        | (have _t := tok1; rw [← HW.out]; clear tok1; with_reducible refine wpList_load_mid rfl 26 (.tmp 2) rfl w.heap.size 0 rfl R _ (row_range r1) Tryd.underlying26 rfl hzR.out ?_)
        | (go_at_call 11; refine (hck.out _).mono ?_; rintro e w2 ⟨rfl, hb2⟩; have r2 := r1.later hb2 r1.lt; have q2 := q1.later hb2 q1.lt; have hb2 := hb1.trans (hb2.mono hb1.size); have hc1 := rng_n' HVl.out HR.out r2; have hc2 := rng_n' HV2l.out HR2.out q2))
      go_ret
      exact ⟨by rw [HC.out]; rfl, hb2⟩
end Go.Proofs.YtflebnbpoboljaaDoor

/- LAYER 13: package net: Text, Parse. -/
namespace Go.Proofs.YtflebnbpoboljaaDoor
set_option maxRecDepth 100000
open Go Go.RowKit

theorem itoa_num (n : Int) (h : 0 ≤ n) : Lib.itoa n = numL 10 n.toNat := by
  unfold Lib.itoa
  rw [if_neg (by omega), decDigits_num]
theorem aitoa_any (n : Int) (h0 : 0 ≤ n) (h1 : n ≤ 9223372036854775807) (w : World) (hE : Env w) :
    Calls Tryd.prog 30 #[.int .i64 n] w fun e w' => e = .returned (.string (bstr (numL 10 n.toNat))) ∧ Below w.heap.size w w' := by
  refine (Tryd.strconv_Itoa n (by omega) h1 w hE.pow).mono ?_
  rintro e w' ⟨rfl, k, os, rfl⟩
  exact ⟨by rw [itoa_num n h0]; rfl, Lib.below_grow _ _ (Nat.le_refl _) k os⟩
/-- The number that Atoi answers, error or none. -/
def atoiI (l : List UInt8) : Int := match Lib.atoiAll l with
  | .ok v => v
  | .range => Lib.atoiSat l
  | _ => 0
theorem atoiI_bounds (l : List UInt8) : -9223372036854775808 ≤ atoiI l ∧ atoiI l ≤ 9223372036854775807 := by
  unfold atoiI
  cases h : Lib.atoiAll l with
  | ok v =>
    have := Lib.atoiAll_bounds h
    exact this
  | range =>
    have := Lib.atoiSat_bounds l
    exact this
  | _ => show (-9223372036854775808 : Int) ≤ 0 ∧ (0 : Int) ≤ 9223372036854775807; exact ⟨by decide, by decide⟩
theorem bstr_data (l : List UInt8) : (bstr l).data.toList = l := rfl
theorem aatoi_any (l : List UInt8) (hl : l.length ≤ 100000) (w : World) (hE : Env w) :
    Calls Tryd.prog 21 #[.string (bstr l)] w fun e w' => ∃ ev, e = .returned (.tuple #[.int .i64 (atoiI l), ev]) ∧ Below w.heap.size w w' := by
  obtain ⟨-, -, -, ⟨vs, hvs, hvs2⟩, ⟨vr, hvr, hvr2⟩⟩ := hE
  have hz := size_bstr l
  cases h : Lib.atoiAll l with
  | ok v =>
    have ev : atoiI l = v := by unfold atoiI; rw [h]
    rw [ev]
    refine (Tryd.strconv_Atoi_ok (bstr l) (by omega) v (by rw [bstr_data]; exact h) w).mono ?_
    rintro e w' ⟨rfl, hw⟩
    refine ⟨_, rfl, ?_⟩
    rcases hw with rfl | ⟨t, rfl⟩
    · exact Below.refl _ _
    · exact Lib.bytesWorld_below _ _ _
  | range =>
    have ev : atoiI l = Lib.atoiSat l := by unfold atoiI; rw [h]
    rw [ev]
    refine (Tryd.strconv_Atoi_range (bstr l) (by omega) (by rw [bstr_data]; exact h) vr w hvr hvr2).mono ?_
    rintro e w' ⟨N, rfl, -, -, hb⟩
    exact ⟨_, by rw [bstr_data], hb⟩
  | _ =>
    have ev : atoiI l = 0 := by unfold atoiI; rw [h]
    rw [ev]
    refine (Tryd.strconv_Atoi_syntax (bstr l) (by omega) (by rw [bstr_data]; exact h) vs w hvs hvs2).mono ?_
    rintro e w' ⟨N, rfl, -, -, hb⟩
    exact ⟨_, rfl, hb⟩
theorem atoi_num : ∀ n : Nat, n ≤ 128 → atoiI (numL 10 n) = (n : Int) := by
  have h : ∀ n : Fin 129, atoiI (numL 10 n.1) = (n.1 : Int) := by decide +kernel
  intro n hn
  exact h ⟨n, by omega⟩
/-! A text's parts ahead of and behind '/'. -/
def cutR (s : List UInt8) : List UInt8 × List UInt8 := ((Lib.cut s [47]).1, (Lib.cut s [47]).2.1)
theorem cutR_le (s : List UInt8) : (cutR s).1.length ≤ s.length ∧ (cutR s).2.length ≤ s.length := by
  unfold cutR Lib.cut
  split
  · simp; omega
  · simp
theorem cutR_at (t u : List UInt8) (h : (47 : UInt8) ∉ t) : cutR (t ++ 47 :: u) = (t, u) := by
  have hocc : Lib.occAt (t ++ 47 :: u) [47] t.length = true := by
    unfold Lib.occAt
    rw [List.drop_left]
    simp [List.isPrefixOf]
  have hi : Lib.index (t ++ 47 :: u) [47] = (t.length : Int) := by
    rcases Lib.index_spec (t ++ 47 :: u) [47] with ⟨-, h2⟩ | ⟨i, h1, h2, h3, h4⟩
    · have := h2 t.length (by simp)
      rw [hocc] at this; cases this
    · by_cases hlt : i < t.length
      · exfalso
        unfold Lib.occAt at h3
        rw [List.drop_append_of_le_length (by omega), List.drop_eq_getElem_cons hlt] at h3
        simp only [List.cons_append, List.isPrefixOf, Bool.and_true, beq_iff_eq] at h3
        exact h (by rw [h3]; exact List.getElem_mem hlt)
      · by_cases hgt : t.length < i
        · have := h4 t.length hgt
          rw [hocc] at this; cases this
        · rw [h1]; omega
  unfold cutR Lib.cut
  rw [hi, if_pos (by omega)]
  simp
/-- What package addr's Parse leaves of a text: its address, or the zero one. -/
def zaL (s : List UInt8) : Adr := (parseL s).getD zeroA
theorem zaL_ok (s : List UInt8) : (zaL s).Ok := by
  unfold zaL
  cases h : parseL s with
  | none => exact zeroA_ok
  | some a => exact ((parseL_iff s a).1 h).1
theorem pars_za (s : List UInt8) : ∃ b, parsV (parseL s) = .tuple #[.agg (adrV (zaL s)).toArray, .bool b] := by
  unfold zaL
  cases h : parseL s with
  | none => exact ⟨false, rfl⟩
  | some a => exact ⟨true, rfl⟩
def readR (s : List UInt8) : Rng := ⟨zaL (cutR s).1, atoiI (cutR s).2⟩
theorem readR_ok (s : List UInt8) : (readR s).Ok := ⟨zaL_ok _, (atoiI_bounds _).1, (atoiI_bounds _).2⟩
theorem readR_nil : textR (readR []) ≠ [] := by decide +kernel
/-- What package net's Parse answers is what the document asks. -/
theorem parse_readR (s : List UInt8) : parseR s = if textR (readR s) = s then some (readR s) else none := by
  by_cases h : textR (readR s) = s
  · rw [if_pos h]
    refine (parseR_iff s (readR s)).2 ⟨(readR_ok s).a, (textR_ne _ ?_).1, h⟩
    rw [h]
    intro e
    rw [e] at h
    exact readR_nil h
  · rw [if_neg h]
    cases hp : parseR s with
    | none => rfl
    | some r =>
      exfalso
      apply h
      obtain ⟨ho, hc, ht⟩ := (parseR_iff s r).1 hp
      obtain ⟨ca, n0, n1⟩ := checkR_lim r hc
      have e : readR s = r := by
        unfold readR
        rw [← ht, textR_ok r hc, cutR_at _ _ (textA_47 _)]
        unfold zaL
        rw [parseL_back r.a ho ca, atoi_num _ (by omega), Int.toNat_of_nonneg n0]
        rfl
      rw [e]; exact ht
theorem acutR_any (s : List UInt8) (hs : s.length ≤ 100000) (w : World) (hE : Env w) :
    Calls Tryd.prog 19 #[.string (bstr s), .string ⟨#[47]⟩] w fun e w' => e = .returned (.tuple #[.string (bstr (cutR s).1), .string (bstr (cutR s).2), .bool (Lib.cut s [47]).2.2]) ∧ Below w.heap.size w w' := by
  obtain ⟨m, hm⟩ := hE.most
  refine (Tryd.strings_Cut (bstr s) (bstr [47]) m w (by rw [size_bstr]; omega) hm).mono ?_
  rintro e w' ⟨rfl, n, rfl⟩
  exact ⟨rfl, below_drewN w n⟩
set_option maxHeartbeats 2000000 in
theorem atext13_any (r : Rng) (h : r.Ok) (w : World) (hE : Env w) :
    Calls Tryd.prog 13 #[.agg (rngV r).toArray] w fun e w' => e = .returned (.string (bstr (textR r))) ∧ Below w.heap.size w w' := by
  have hcr := Lib.hid (fun w' => acheckR_any r h w')
  have htx := Lib.hid (fun w' hE => atext_any r.a h.a w' hE)
  have hlim := checkR_lim r
  obtain ⟨R, hR⟩ : ∃ R, R = rngV r := ⟨_, rfl⟩
  obtain ⟨V, hV⟩ : ∃ V, V = adrV r.a := ⟨_, rfl⟩
  have HR := Lib.hid (show R = V ++ [Value.int .i64 r.n] by rw [hR, hV]; rfl)
  have hVl := Lib.hid (show V.length = 17 by rw [hV]; exact length_adrV h.a)
  have hzV := Lib.hid (show (Tryd.prog.info? 24).map (·.size) = some V.length by rw [hVl.out]; exact size_adr)
  have hzR := Lib.hid (show (Tryd.prog.info? 26).map (·.size) = some R.length by rw [hR, length_rngV' r h.a]; exact size_rng)
  rw [← hR] at hcr ⊢
  rw [← hV] at htx
  clear hR hV
  obtain ⟨w1, hw1⟩ : ∃ w1, w1 = w.alloc (.cells R.toArray 26) := ⟨_, rfl⟩
  have r1 : Row w1 w.heap.size 26 R := by rw [hw1]; exact Row.new w _ _
  have hb1 : Below w.heap.size w w1 := by rw [hw1]; exact (Below.refl _ w).alloc (Nat.le_refl _) _
  have hE1 := hE.next hb1
  have HW := Lib.hid hw1
  clear hw1 hE
  have tok1 : True := trivial
  cases hc : checkR r with
  | false =>
    have HX := Lib.hid (show textR r = [] by unfold textR; rw [hc]; rfl)
    rw [hc] at hcr
    clear hc hlim
    go_enter Tryd.func13, Tryd.ntmps13
    go_wp2_with (first
      | (have _t := tok1; rw [← HW.out]; clear tok1; with_reducible refine wpList_load_mid rfl 26 (.tmp 1) rfl w.heap.size 0 rfl R _ (row_range r1) Tryd.underlying26 rfl hzR.out ?_)
      | (go_at_call 11; refine (hcr.out _).mono ?_; rintro e w2 ⟨rfl, hb2⟩; have hb2 := hb1.trans (hb2.mono hb1.size)))
    go_ret
    exact ⟨by rw [HX.out]; rfl, hb2⟩
  | true =>
    obtain ⟨-, n0, n1⟩ := hlim hc
    have HX := Lib.hid (show textR r = (textA r.a ++ [47]) ++ numL 10 r.n.toNat by rw [textR_ok r hc]; simp)
    have hnm := Lib.hid (fun w' hE => aitoa_any r.n n0 (by omega) w' hE)
    have hl1 := textA_len r.a
    have hl2 := numL_len 10 (by omega) 2 r.n.toNat (by omega)
    rw [hc] at hcr
    generalize textA r.a = A at *
    generalize numL 10 r.n.toNat = B at *
    generalize hn : r.n = n at *
    have hs1 : (bstr A).size ≤ 39 := by rw [size_bstr]; exact hl1
    have hs2 : (bstr B).size ≤ 3 := by rw [size_bstr]; exact hl2
    clear hc hlim n0 n1 hl1 hl2 hn
    go_enter Tryd.func13, Tryd.ntmps13
    go_wp2_with (first
      | (have _t := tok1; rw [← HW.out]; clear tok1; with_reducible refine wpList_load_mid rfl 26 (.tmp 1) rfl w.heap.size 0 rfl R _ (row_range r1) Tryd.underlying26 rfl hzR.out ?_)
      | (go_at_call 11; refine (hcr.out _).mono ?_; rintro e w2 ⟨rfl, hb2⟩; have r2 := r1.later hb2 r1.lt; have hE2 := hE1.next hb2; have hb2 := hb1.trans (hb2.mono hb1.size)))
    refine wp_region_noPanic ?_
    refine wp_region_held_drew (S := fun w' => Below w2.heap.size w2 w') (by kernel_rfl) ((Below.refl _ _).drew) (fun hHeld => ?_)
    have hB := hHeld
    refine rtake 0 _ (some 6) _ rfl rfl (by kernel_rfl) (by kernel_rfl) (by kernel_rfl) (fun _ _ _ h => h) (by rfl) hHeld (by intro w hS; go_simp; try with_reducible rfl) ?_
    try (first | (rw [put_some]; dsimp only [List.set]) | rw [put_none])
    refine rtake 1 _ (some 7) _ rfl rfl (by kernel_rfl) (by kernel_rfl) (by kernel_rfl) (fun _ _ _ h => h) (by rfl) hHeld (by intro w hS; exact run_load_op 24 (.tmp 6) rfl _ 0 rfl V _ (row_part' HR.out (r2.later hS r2.lt)) Tryd.underlying24 rfl hzV.out) ?_
    try (first | (rw [put_some]; dsimp only [List.set]) | rw [put_none])
    refine rtake 4 _ (some 10) _ rfl rfl (by kernel_rfl) (by kernel_rfl) (by kernel_rfl) (fun _ _ _ h => h) (by rfl) hHeld (by intro w hS; go_simp; try with_reducible rfl) ?_
    try (first | (rw [put_some]; dsimp only [List.set]) | rw [put_none])
    refine rtake 5 _ (some 11) _ rfl rfl (by kernel_rfl) (by kernel_rfl) (by kernel_rfl) (fun _ _ _ h => h) (by rfl) hHeld (by intro w hS; have hcn := rng_n' hVl.out HR.out (r2.later hS r2.lt); go_simp; try with_reducible rfl) ?_
    try (first | (rw [put_some]; dsimp only [List.set]) | rw [put_none])
    refine wpAnyH_ready (rs := [2]) (by kernel_rfl) (by simp) (AllReadyH.cons (o := _) rfl (fun K hK => ?_) AllReadyH.nil)
    go_simp
    refine (htx.out _ (hE2.next hHeld)).mono ?_; rintro e ww22 ⟨rfl, hqw22⟩
    try go_wp2_with fail
    refine hK.out _ _ (hHeld.trans (hqw22.mono hHeld.size)) (fun hHeld' => ?_)
    clear hK K
    try (first | (rw [put_some]; dsimp only [List.set]) | rw [put_none])
    have hB := below_step hB hqw22
    have hB2 : Below ww22.heap.size ww22 ww22 := Below.refl _ _
    refine wpAnyH_narrow (S' := fun w' => Below ww22.heap.size ww22 w') (fun _ h => (hHeld.trans (hqw22.mono hHeld.size)).trans (h.mono (hHeld.trans (hqw22.mono hHeld.size)).size)) _ _ _ _ ?_
    clear hHeld
    have hHeld : Below ww22.heap.size ww22 ww22 := Below.refl _ _
    refine rtake 3 _ (some 9) _ rfl rfl (by kernel_rfl) (by kernel_rfl) (by kernel_rfl) (fun _ _ _ h => h) (by rfl) hHeld (by intro w hS; go_simp; rw [if_neg (by (try simp only [ByteArray.size_append]); (try simp only [show ({ data := #[47] } : ByteArray).size = 1 from rfl]); omega)]) ?_
    try (first | (rw [put_some]; dsimp only [List.set]) | rw [put_none])
    refine wpAnyH_ready (rs := [6]) (by kernel_rfl) (by simp) (AllReadyH.cons (o := _) rfl (fun K hK => ?_) AllReadyH.nil)
    go_simp
    refine (hnm.out _ (hE2.next hB)).mono ?_; rintro e ww26 ⟨rfl, hqw26⟩
    try go_wp2_with fail
    refine hK.out _ _ (hHeld.trans (hqw26.mono hHeld.size)) (fun hHeld' => ?_)
    clear hK K
    try (first | (rw [put_some]; dsimp only [List.set]) | rw [put_none])
    have hB := below_step hB hqw26
    have hB2 := below_step hB2 hqw26
    have hB6 : Below ww26.heap.size ww26 ww26 := Below.refl _ _
    refine wpAnyH_narrow (S' := fun w' => Below ww26.heap.size ww26 w') (fun _ h => (hHeld.trans (hqw26.mono hHeld.size)).trans (h.mono (hHeld.trans (hqw26.mono hHeld.size)).size)) _ _ _ _ ?_
    clear hHeld
    have hHeld : Below ww26.heap.size ww26 ww26 := Below.refl _ _
    refine rtake 7 _ (some 13) _ rfl rfl (by kernel_rfl) (by kernel_rfl) (by kernel_rfl) (fun _ _ _ h => h) (by rfl) hHeld (by intro w hS; go_simp; rw [if_neg (by (try simp only [ByteArray.size_append]); (try simp only [show ({ data := #[47] } : ByteArray).size = 1 from rfl]); omega)]) ?_
    try (first | (rw [put_some]; dsimp only [List.set]) | rw [put_none])
    refine rtake 8 _ (some 2) _ rfl rfl (by kernel_rfl) (by kernel_rfl) (by kernel_rfl) (fun _ _ _ h => h) (by rfl) hHeld (by intro w hS; go_simp; try with_reducible rfl) ?_
    try (first | (rw [put_some]; dsimp only [List.set]) | rw [put_none])
    refine wpAnyH_done (by kernel_rfl) ?_ _
    refine NoPanic.normal ?_
    have hbe := hb2.trans (hB.mono hb2.size)
    clear hHeld
    go_wp2
    go_ret
    exact ⟨by rw [HX.out]; simp only [← bstr_cat12]; rfl, hbe⟩
set_option maxHeartbeats 4000000 in
theorem aparse13_any (s : List UInt8) (hs : s.length ≤ 100000) (w : World) (hE : Env w) :
    Calls Tryd.prog 7 #[.string (bstr s)] w fun e w' => e = .returned (parsR (parseR s)) ∧ Below w.heap.size w w' := by
  obtain ⟨hl1, hl2⟩ := cutR_le s
  have hcut := Lib.hid (fun w' hE => acutR_any s hs w' hE)
  obtain ⟨b, hpe⟩ := pars_za (cutR s).1
  have hpa := Lib.hid (fun w' hE => aparse_any (cutR s).1 (by omega) w' hE)
  rw [hpe] at hpa
  have hat := Lib.hid (fun w' hE => aatoi_any (cutR s).2 (by omega) w' hE)
  have hXo := readR_ok s
  have htx := Lib.hid (fun w' hE => atext13_any (readR s) hXo w' hE)
  have HP := Lib.hid (parse_readR s)
  have hzs := bstr_beq (textR (readR s)) s
  obtain ⟨Z, hZ⟩ : ∃ Z, Z = rngV zeroR := ⟨_, rfl⟩
  obtain ⟨X, hX⟩ : ∃ X, X = rngV (readR s) := ⟨_, rfl⟩
  obtain ⟨V, hV⟩ : ∃ V, V = adrV (zaL (cutR s).1) := ⟨_, rfl⟩
  have hVl := Lib.hid (show V.length = 17 by rw [hV]; exact length_adrV (zaL_ok _))
  have hzV := Lib.hid (show (Tryd.prog.info? 24).map (·.size) = some V.length by rw [hVl.out]; exact size_adr)
  have hzV2 := Lib.hid (show (Tryd.prog.info? 24).map (·.size) = some V.toArray.size by rw [List.size_toArray]; exact hzV.out)
  have h17 := Lib.hid (show 17 = V.toArray.size by rw [List.size_toArray, hVl.out])
  have hV1 := Lib.hid (show V.toArray.all (·.oneCell') = true by rw [hV]; exact adrV_one' _)
  have hXl := length_rngV' _ hXo.a
  have hzX := Lib.hid (show (Tryd.prog.info? 26).map (·.size) = some X.length by rw [hX, hXl]; exact size_rng)
  have hzX2 := Lib.hid (show (Tryd.prog.info? 26).map (·.size) = some X.toArray.size by rw [List.size_toArray]; exact hzX.out)
  have h18 := Lib.hid (show 18 = X.toArray.size by rw [hX, List.size_toArray, hXl])
  have hX1 := Lib.hid (show X.toArray.all (·.oneCell') = true by rw [hX]; exact rngV_one' _)
  have hzZ := Lib.hid (show (Tryd.prog.info? 26).map (·.size) = some Z.toArray.size by rw [hZ, List.size_toArray, length_rngV' _ zeroA_ok]; exact size_rng)
  have hZ1 := Lib.hid (show Z.toArray.all (·.oneCell') = true by rw [hZ]; exact rngV_one' _)
  have hZX := Lib.hid (show Z.toArray.size = X.toArray.size by rw [hX, hZ, List.size_toArray, List.size_toArray, hXl, length_rngV' _ zeroA_ok])
  have hZe := Lib.hid (hZ.trans rngV_zero)
  have HXe := Lib.hid (show X = V ++ [Value.int .i64 (atoiI (cutR s).2)] by rw [hX, hV]; rfl)
  have HPt := Lib.hid (show textR (readR s) = s → parsR (parseR s) = .tuple #[.agg X.toArray, .bool true] by intro h; rw [HP.out, if_pos h, hX]; rfl)
  have HPf := Lib.hid (show textR (readR s) ≠ s → parsR (parseR s) = .tuple #[.agg Z.toArray, .bool false] by intro h; rw [HP.out, if_neg h, hZ]; rfl)
  obtain ⟨w1, hw1⟩ : ∃ w1, w1 = w.alloc (.cells Z.toArray 26) := ⟨_, rfl⟩
  have q1 : Row w1 w.heap.size 26 Z := by rw [hw1]; exact Row.new w _ _
  have hb1 : Below w.heap.size w w1 := by rw [hw1]; exact (Below.refl _ w).alloc (Nat.le_refl _) _
  have hE1 := hE.next hb1
  have HW := Lib.hid (show w1 = w.alloc (.cells #[Value.bool false, .int .u8 0, .int .u8 0, .int .u8 0, .int .u8 0, .int .u8 0, .int .u8 0, .int .u8 0, .int .u8 0, .int .u8 0, .int .u8 0, .int .u8 0, .int .u8 0, .int .u8 0, .int .u8 0, .int .u8 0, .int .u8 0, .int .i64 0] 26) by rw [hw1, hZe.out])
  rw [← hV] at hpa
  rw [← hX] at htx
  clear hw1 hV hX hZ hE hs hl1 hl2 hpe HP hXl
  generalize atoiI (cutR s).2 = n at *
  generalize (Lib.cut s [47]).2.2 = fd at *
  generalize bstr (cutR s).1 = F at *
  generalize bstr (cutR s).2 = B at *
  by_cases hT : textR (readR s) = s
  case pos =>
    have HX := Lib.hid (HPt.out hT)
    rw [decide_eq_true hT] at hzs
    clear HPt HPf hT hXo
    generalize textR (readR s) = tx at *
    generalize bstr tx = TX at *
    generalize bstr s = S at *
    go_enter Tryd.func7, Tryd.ntmps7
    go_wp2_with (first
      | (go_at_call 19; rw [← HW.out]; refine (hcut.out _ hE1).mono ?_; rintro e w2 ⟨rfl, hb2⟩; have hE2 := hE1.next hb2; have q2 := q1.later hb2 q1.lt; have hb2 := hb1.trans (hb2.mono hb1.size); clear HW q1)
      | (go_at_call 20; refine (hpa.out _ hE2).mono ?_; rintro e w3 ⟨rfl, hb3⟩; have hE3 := hE2.next hb3; have q3 := q2.later hb3 q2.lt; have hb3 := hb2.trans (hb3.mono hb2.size); clear q2)
      | (have _t := hb3; refine wpList_store_row rfl 24 (.tmp 7) (.tmp 21) rfl w3.heap.size V.toArray rfl rfl 24 _ (heap_alloc_new w3 _) hzV2.out h17.out hV1.out ?_; refine Hid.out ?_))
    refine Lib.hid ?_
    generalize hw4 : World.setRow _ _ _ = w4
    obtain ⟨r4, hb4'⟩ := row_new_set (xs := V) hw4
    have hE4 := hE3.next hb4'
    have q4 := q3.later hb4' q3.lt
    have hb4 := hb3.trans (hb4'.mono hb3.size)
    clear hw4 hb4' q3
    generalize w3.heap.size = g at *
    go_wp2_with (first
      | (go_at_call 21; refine (hat.out _ hE4).mono ?_; rintro e w5 ⟨ev, rfl, hb5⟩; have hE5 := hE4.next hb5; have q5 := q4.later hb5 q4.lt; have r5 := r4.later hb5 r4.lt; have hb5 := hb4.trans (hb5.mono hb4.size); clear q4 r4)
      | (have _t := hE5; with_reducible refine wpList_load_mid rfl 24 (.tmp 7) rfl g 0 rfl V _ (row_range r5) Tryd.underlying24 rfl hzV.out ?_)
      | (refine wpList_build2 rfl 26 0 1 (.tmp 28) (.tmp 29) rfl (.agg V.toArray) (.int .i64 n) (.agg X.toArray) rfl rfl (by rw [HXe.out]; exact build_rng V n hVl.out _) ?_)
      | (have _t := hE5; refine wpList_store_row rfl 26 (.tmp 11) (.tmp 30) rfl w5.heap.size X.toArray rfl rfl 26 _ (heap_alloc_new w5 _) hzX2.out h18.out hX1.out ?_; refine Hid.out ?_))
    refine Lib.hid ?_
    generalize hw6 : World.setRow _ _ _ = w6
    obtain ⟨x6, hb6'⟩ := row_new_set (xs := X) hw6
    have hE6 := hE5.next hb6'
    have q6 := q5.later hb6' q5.lt
    have hb6 := hb5.trans (hb6'.mono hb5.size)
    clear hw6 hb6' q5 r5
    generalize w5.heap.size = g2 at *
    have tok2 : True := trivial
    go_wp2_with (first
      | (have _t := tok2; with_reducible refine wpList_load_mid rfl 26 (.tmp 11) rfl g2 0 rfl X _ (row_range x6) Tryd.underlying26 rfl hzX.out ?_; clear tok2)
      | (go_at_call 13; refine (htx.out _ hE6).mono ?_; rintro e w7 ⟨rfl, hb7⟩; have x7 := x6.later hb7 x6.lt; have Q7 := Lib.hid (show w7.heap[w.heap.size]? = some (.cells Z.toArray 26 (0, 0)) from q6.later hb7 q6.lt); have hb7 := hb6.trans (hb7.mono hb6.size); clear x6 q6)
      | (with_reducible refine wpList_load_mid rfl 26 (.tmp 11) rfl g2 0 rfl X _ (row_range x7) Tryd.underlying26 rfl hzX.out ?_)
      | (with_reducible refine wpList_store_row rfl 26 (.tmp 2) (.tmp 36) rfl w.heap.size X.toArray rfl rfl 26 Z.toArray Q7.out hzX2.out hZX.out hX1.out ?_; refine Hid.out ?_))
    refine Lib.hid ?_
    generalize hw8 : World.setRow _ _ _ = w8
    obtain ⟨r8, hg8⟩ := row_set (show Row w7 w.heap.size 26 Z from Q7.out) hw8
    have hb8 := hb7.grown hg8 hb7.size (fun k h => by cases h; exact Nat.le_refl _)
    have R8 := Lib.hid (show w8.heap[w.heap.size]? = some (.cells X.toArray 26 (0, 0)) from r8)
    clear hw8 r8 hg8 Q7
    go_wp2_with fail
    exact ⟨rfl, _, results_row_tmp rfl _ _ w.heap.size 26 X.toArray (0, 0) _ rfl R8.out Tryd.underlying26 rfl hzX2.out _ rfl, by rw [HX.out]; rfl, hb8⟩
  case neg =>
    have HX := Lib.hid (HPf.out hT)
    rw [decide_eq_false hT] at hzs
    clear HPt HPf hT hXo
    generalize textR (readR s) = tx at *
    generalize bstr tx = TX at *
    generalize bstr s = S at *
    go_enter Tryd.func7, Tryd.ntmps7
    go_wp2_with (first
      | (go_at_call 19; rw [← HW.out]; refine (hcut.out _ hE1).mono ?_; rintro e w2 ⟨rfl, hb2⟩; have hE2 := hE1.next hb2; have q2 := q1.later hb2 q1.lt; have hb2 := hb1.trans (hb2.mono hb1.size); clear HW q1)
      | (go_at_call 20; refine (hpa.out _ hE2).mono ?_; rintro e w3 ⟨rfl, hb3⟩; have hE3 := hE2.next hb3; have q3 := q2.later hb3 q2.lt; have hb3 := hb2.trans (hb3.mono hb2.size); clear q2)
      | (have _t := hb3; refine wpList_store_row rfl 24 (.tmp 7) (.tmp 21) rfl w3.heap.size V.toArray rfl rfl 24 _ (heap_alloc_new w3 _) hzV2.out h17.out hV1.out ?_; refine Hid.out ?_))
    refine Lib.hid ?_
    generalize hw4 : World.setRow _ _ _ = w4
    obtain ⟨r4, hb4'⟩ := row_new_set (xs := V) hw4
    have hE4 := hE3.next hb4'
    have q4 := q3.later hb4' q3.lt
    have hb4 := hb3.trans (hb4'.mono hb3.size)
    clear hw4 hb4' q3
    generalize w3.heap.size = g at *
    go_wp2_with (first
      | (go_at_call 21; refine (hat.out _ hE4).mono ?_; rintro e w5 ⟨ev, rfl, hb5⟩; have hE5 := hE4.next hb5; have q5 := q4.later hb5 q4.lt; have r5 := r4.later hb5 r4.lt; have hb5 := hb4.trans (hb5.mono hb4.size); clear q4 r4)
      | (have _t := hE5; with_reducible refine wpList_load_mid rfl 24 (.tmp 7) rfl g 0 rfl V _ (row_range r5) Tryd.underlying24 rfl hzV.out ?_)
      | (refine wpList_build2 rfl 26 0 1 (.tmp 28) (.tmp 29) rfl (.agg V.toArray) (.int .i64 n) (.agg X.toArray) rfl rfl (by rw [HXe.out]; exact build_rng V n hVl.out _) ?_)
      | (have _t := hE5; refine wpList_store_row rfl 26 (.tmp 11) (.tmp 30) rfl w5.heap.size X.toArray rfl rfl 26 _ (heap_alloc_new w5 _) hzX2.out h18.out hX1.out ?_; refine Hid.out ?_))
    refine Lib.hid ?_
    generalize hw6 : World.setRow _ _ _ = w6
    obtain ⟨x6, hb6'⟩ := row_new_set (xs := X) hw6
    have hE6 := hE5.next hb6'
    have q6 := q5.later hb6' q5.lt
    have hb6 := hb5.trans (hb6'.mono hb5.size)
    clear hw6 hb6' q5 r5
    generalize w5.heap.size = g2 at *
    have tok2 : True := trivial
    go_wp2_with (first
      | (have _t := tok2; with_reducible refine wpList_load_mid rfl 26 (.tmp 11) rfl g2 0 rfl X _ (row_range x6) Tryd.underlying26 rfl hzX.out ?_; clear tok2)
      | (go_at_call 13; refine (htx.out _ hE6).mono ?_; rintro e w7 ⟨rfl, hb7⟩; have x7 := x6.later hb7 x6.lt; have Q7 := Lib.hid (show w7.heap[w.heap.size]? = some (.cells Z.toArray 26 (0, 0)) from q6.later hb7 q6.lt); have hb7 := hb6.trans (hb7.mono hb6.size); clear x6 q6)
      | (have _t := Q7; refine wpList_store_row rfl 26 (.tmp 2) (.tmp 35) rfl w.heap.size Z.toArray rfl (by rw [hZe.out]; rfl) 26 Z.toArray Q7.out hzZ.out rfl hZ1.out ?_; refine Hid.out ?_))
    refine Lib.hid ?_
    generalize hw8 : World.setRow _ _ _ = w8
    obtain ⟨r8, hg8⟩ := row_set (show Row w7 w.heap.size 26 Z from Q7.out) hw8
    have hb8 := hb7.grown hg8 hb7.size (fun k h => by cases h; exact Nat.le_refl _)
    have R8 := Lib.hid (show w8.heap[w.heap.size]? = some (.cells Z.toArray 26 (0, 0)) from r8)
    clear hw8 r8 hg8 Q7
    go_wp2_with fail
    exact ⟨rfl, _, results_row_tmp rfl _ _ w.heap.size 26 Z.toArray (0, 0) _ rfl R8.out Tryd.underlying26 rfl hzZ.out _ rfl, by rw [HX.out]; rfl, hb8⟩
end Go.Proofs.YtflebnbpoboljaaDoor

/- LAYER 13: the law's netAlive. -/
namespace Go.Proofs.YtflebnbpoboljaaDoor
set_option maxRecDepth 100000
open Go Go.RowKit

def exR : Rng := ⟨⟨false, [10, 0, 0, 0, 0, 0, 0, 0, 0, 0, 0, 0, 0, 0, 0, 0]⟩, 8⟩
theorem exR_ok : exR.Ok := ⟨rfl, by decide, by decide⟩
theorem exR_text : parseR [49, 48, 46, 48, 46, 48, 46, 48, 47, 56] = some exR := (parseR_iff _ _).2 ⟨rfl, by decide +kernel, by decide +kernel⟩
theorem exR_has : hasR exR ⟨false, [10, 1, 2, 3, 0, 0, 0, 0, 0, 0, 0, 0, 0, 0, 0, 0]⟩ = true := by decide +kernel
theorem exR_hasnt : hasR exR ⟨false, [11, 0, 0, 0, 0, 0, 0, 0, 0, 0, 0, 0, 0, 0, 0, 0]⟩ = false := by decide +kernel
set_option maxHeartbeats 4000000 in
theorem netAlive_any (w : World) (hE : Env w) : Calls Tryd.prog 6 #[] w fun e w' => e = .returned (.bool true) ∧ Below w.heap.size w w' := by
  have hpa := Lib.hid (fun w' hE => aparse13_any [49, 48, 46, 48, 46, 48, 46, 48, 47, 56] (by decide) w' hE)
  rw [exR_text] at hpa
  obtain ⟨X, hX⟩ : ∃ X, X = rngV exR := ⟨_, rfl⟩
  have hXl := length_rngV' _ exR_ok.a
  have hpa := Lib.hid (show ∀ w', Env w' → Calls Tryd.prog 7 #[.string { data := #[49, 48, 46, 48, 46, 48, 46, 48, 47, 56] }] w' fun e w'' => e = .returned (.tuple #[.agg X.toArray, .bool true]) ∧ Below w'.heap.size w' w'' by rw [hX]; exact hpa.out)
  have h1 := Lib.hid (show ∀ w', Calls Tryd.prog 15 #[.agg X.toArray, .agg #[.bool false, .int .u8 10, .int .u8 1, .int .u8 2, .int .u8 3, .int .u8 0, .int .u8 0, .int .u8 0, .int .u8 0, .int .u8 0, .int .u8 0, .int .u8 0, .int .u8 0, .int .u8 0, .int .u8 0, .int .u8 0, .int .u8 0]] w' fun e w'' => e = .returned (.bool true) ∧ Below w'.heap.size w' w'' by
    rw [hX, ← exR_has]; exact fun w' => ahas_any exR exR_ok ⟨false, [10, 1, 2, 3, 0, 0, 0, 0, 0, 0, 0, 0, 0, 0, 0, 0]⟩ rfl w')
  have h2 := Lib.hid (show ∀ w', Calls Tryd.prog 15 #[.agg X.toArray, .agg #[.bool false, .int .u8 11, .int .u8 0, .int .u8 0, .int .u8 0, .int .u8 0, .int .u8 0, .int .u8 0, .int .u8 0, .int .u8 0, .int .u8 0, .int .u8 0, .int .u8 0, .int .u8 0, .int .u8 0, .int .u8 0, .int .u8 0]] w' fun e w'' => e = .returned (.bool false) ∧ Below w'.heap.size w' w'' by
    rw [hX, ← exR_hasnt]; exact fun w' => ahas_any exR exR_ok ⟨false, [11, 0, 0, 0, 0, 0, 0, 0, 0, 0, 0, 0, 0, 0, 0, 0]⟩ rfl w')
  have hzX := Lib.hid (show (Tryd.prog.info? 26).map (·.size) = some X.length by rw [hX, hXl]; exact size_rng)
  have hzX2 := Lib.hid (show (Tryd.prog.info? 26).map (·.size) = some X.toArray.size by rw [List.size_toArray]; exact hzX.out)
  have h18 := Lib.hid (show 18 = X.toArray.size by rw [hX, List.size_toArray, hXl])
  have hX1 := Lib.hid (show X.toArray.all (·.oneCell') = true by rw [hX]; exact rngV_one' _)
  clear hX hXl
  have tok1 : True := trivial
  have tok2 : True := trivial
  go_enter Tryd.func6, Tryd.ntmps6
  go_wp2_with (first
    | (go_at_call 7; refine (hpa.out _ hE).mono ?_; rintro e w2 ⟨rfl, hb2⟩)
    | (have _t := hb2; refine wpList_store_row rfl 26 (.tmp 1) (.tmp 5) rfl w2.heap.size X.toArray rfl rfl 26 _ (heap_alloc_new w2 _) hzX2.out h18.out hX1.out ?_; refine Hid.out ?_))
  refine Lib.hid ?_
  generalize hw4 : World.setRow _ _ _ = w4
  obtain ⟨x4, hb4'⟩ := row_new_set (xs := X) hw4
  have hb4 := hb2.trans (hb4'.mono hb2.size)
  clear hw4 hb4'
  generalize w2.heap.size = g at *
  go_wp2_with (first
    | (have _t := tok1; refine wpList_step fun K hK => ?_; refine step_load_mid (some 9) rfl (by rfl) 26 (.tmp 1) rfl g 0 rfl X _ (row_range x4) Tryd.underlying26 rfl hzX.out ?_; refine hK _ _ ?_; clear hK tok1)
    | (go_at_call 15; have _t := tok2; refine (h1.out _).mono ?_; rintro e w5 ⟨rfl, hb5⟩; have x5 := x4.later hb5 x4.lt; have hb5 := hb4.trans (hb5.mono hb4.size); clear tok2 x4)
    | (refine wpList_step fun K hK => ?_; refine step_load_mid (some 15) rfl (by rfl) 26 (.tmp 1) rfl g 0 rfl X _ (row_range x5) Tryd.underlying26 rfl hzX.out ?_; refine hK _ _ ?_; clear hK)
    | (go_at_call 15; refine (h2.out _).mono ?_; rintro e w6 ⟨rfl, hb6⟩; have hb6 := hb5.trans (hb6.mono hb5.size)))
  go_ret
  exact ⟨rfl, hb6⟩
end Go.Proofs.YtflebnbpoboljaaDoor
