import Derived.Test.YtjieebmcbpdeiaaGreatDoorRaad
import Derived.Test.YtjieebmcbpdeiaaGreatDoorRaaf
import Derived.Test.YtjieebmcbpdeiaaGreatDoorRaaa
import Derived.SliceStrings
import Derived.Laws.Cover1
import Derived.Test.YtjieebmcbpdeiaaGreatDoorRaae
namespace Go.Proofs.YtjieebmcbpdeiaaGreatDoor
set_option maxRecDepth 100000
open Go Go.RowKit
theorem row_part' {w : World} {g : Nat} {t : TypeId} {R V U : List Value} (e : R = V ++ U) (h : Row w g t R) : w.rangeAt g 0 V := row_part (by rw [e] at h; exact h)
theorem rng_n' {w : World} {g : Nat} {t : TypeId} {R V : List Value} {n : Int} (hl : V.length = 17) (e : R = V ++ [Value.int .i64 n]) (h : Row w g t R) : w.cell? ⟨g, 17, none⟩ = some (.int .i64 n) := rng_n hl (by rw [e] at h; exact h)
set_option maxHeartbeats 4000000 in
theorem rhas_any (r : Rng) (h : r.Ok) (a : Adr) (ha : a.Ok) (w : World) :
  Calls Tryz.prog 36 #[.agg (rngV r).toArray, .agg (adrV a).toArray] w fun e w' => e = .returned (.bool (hasR r a)) ∧ Below w.heap.size w w' := by
 have hcr := Lib.hid (fun w' => rcheckR_any r h w')
 have hca := Lib.hid (fun w' => rcheckA_any a ha w')
 have HB := Lib.hid (hasR_bits r h.a a)
 have HLm := Lib.hid (checkR_lim r)
 have hbt := Lib.hid (fun i hi w' => rbit_any a ha i hi w')
 have hbt2 := Lib.hid (fun i hi w' => rbit_any r.a h.a i hi w')
 obtain ⟨R, hR⟩ : ∃ R, R = rngV r := ⟨_, rfl⟩
 obtain ⟨V, hV⟩ : ∃ V, V = adrV r.a := ⟨_, rfl⟩
 obtain ⟨V2, hV2⟩ : ∃ V2, V2 = adrV a := ⟨_, rfl⟩
 have HR := Lib.hid (show R = V ++ [Value.int .i64 r.n] by rw [hR, hV]; rfl)
 have HV0 := Lib.hid (show R[0]? = some (.bool r.a.v6) by rw [hR]; rfl)
 have HA0 := Lib.hid (show V2[0]? = some (.bool a.v6) by rw [hV2]; rfl)
 have hVl := Lib.hid (show V.length = 17 by rw [hV]; exact length_adrV h.a)
 have hzV := Lib.hid (show (Tryz.prog.info? 26).map (·.size) = some V.length by rw [hVl.out]; exact size_adr)
 have hzA := Lib.hid (show (Tryz.prog.info? 26).map (·.size) = some V2.length by rw [hV2, length_adrV ha]; exact size_adr)
 have hzR := Lib.hid (show (Tryz.prog.info? 28).map (·.size) = some R.length by rw [hR, length_rngV' r h.a]; exact size_rng)
 rw [← hR] at hcr ⊢
 rw [← hV] at hbt2
 rw [← hV2] at hca hbt ⊢
 clear hR hV hV2
 obtain ⟨w1, hw1⟩ : ∃ w1, w1 = (w.alloc (.cells R.toArray 28)).alloc (.cells V2.toArray 26) := ⟨_, rfl⟩
 obtain ⟨r1, q1, hb1, -⟩ := two_rows hw1.symm
 have HW := Lib.hid hw1
 clear hw1
 have tok1 : True := trivial
 have hno : (checkR r = true ∧ checkA a = true ∧ a.v6 = r.a.v6) ∨ (checkR r = false ∧ hasR r a = false) ∨ (checkR r = true ∧ checkA a = false ∧ hasR r a = false) ∨ (checkR r = true ∧ checkA a = true ∧ a.v6 ≠ r.a.v6 ∧ hasR r a = false) := by
  cases hh : hasR r a with
  | true => have := HB.out.1 hh; exact .inl ⟨this.1, this.2.1, this.2.2.1⟩
  | false =>
   cases c1 : checkR r with
   | false => exact .inr (.inl ⟨rfl, rfl⟩)
   | true =>
    cases c2 : checkA a with
    | false => exact .inr (.inr (.inl ⟨rfl, rfl, rfl⟩))
    | true =>
     by_cases c3 : a.v6 = r.a.v6
     ·exact .inl ⟨rfl, rfl, c3⟩
     ·exact .inr (.inr (.inr ⟨rfl, rfl, c3, rfl⟩))
 rcases hno with ⟨c1, c2, c3⟩ | ⟨c1, c4⟩ | ⟨c1, c2, c4⟩ | ⟨c1, c2, c3, c4⟩
 ·rw [c1] at hcr
  rw [c2] at hca
  rw [← c3] at HV0
  have HN := Lib.hid (HLm.out c1).2
  have HB := Lib.hid (show (∀ i, i < r.n.toNat → bitL a.b i = bitL r.a.b i) → hasR r a = true from fun hz => HB.out.2 ⟨c1, c2, c3, hz⟩)
  have HX := Lib.hid (show ∀ i, i < r.n.toNat → bitL a.b i ≠ bitL r.a.b i → hasR r a = false from fun i hi hne => by
   cases hh : hasR r a with
   | false => rfl
   | true => exact absurd (((hasR_bits r h.a a).1 hh).2.2.2 i hi) hne)
  obtain ⟨n, hn⟩ : ∃ n, n = r.n := ⟨_, rfl⟩
  rw [← hn] at HR HN HB HX
  generalize a.v6 = v6 at *
  clear hn c1 c2 c3 HLm
  go_enter Tryz.func36, Tryz.ntmps36
  go_wp2_with (first
  | (have _t := tok1; rw [← HW.out]; clear tok1; with_reducible refine wpList_load_mid rfl 28 (.tmp 2) rfl w.heap.size 0 rfl R _ (row_range r1) Tryz.underlying28 rfl hzR.out ?_)
  | (go_at_call 69; refine (hcr.out _).mono ?_; rintro e w2 ⟨rfl, hb2⟩; have r2 := r1.later hb2 r1.lt; have q2 := q1.later hb2 q1.lt; have hb2 := hb1.trans (hb2.mono hb1.size))
  | (refine wpList_step fun K hK => ?_; refine step_load_mid (some 10) rfl (by rfl) 26 (.tmp 3) rfl (w.heap.size + 1) 0 rfl V2 _ (row_range q2) Tryz.underlying26 rfl hzA.out ?_; refine hK _ _ ?_; clear hK)
  | (go_at_call 45; refine (hca.out _).mono ?_; rintro e w3 ⟨rfl, hb3⟩; have r3 := r2.later hb3 r2.lt; have q3 := q2.later hb3 q2.lt; have hb3 := hb2.trans (hb3.mono hb2.size); have hc0 := (r3.cell 0).trans HV0.out; have hc1 := (q3.cell 0).trans HA0.out))
  clear hcr hca hzR HW hb2 r2 q2 hc0 hc1 HV0 HA0
  go_loopw [5] (fun i wr => ∃ k : Nat, (k : Int) ≤ n ∧ i = .int .i64 k ∧ Row wr w.heap.size 28 R ∧ Row wr (w.heap.size + 1) 26 V2 ∧ Below w.heap.size w wr ∧ ∀ j, j < k → bitL a.b j = bitL r.a.b j) (fun i _ => n.toNat - (intOf i).toNat)
  case atStart => exact ⟨0, HN.out.1, rfl, r3, q3, hb3, fun j h2 => by omega⟩
  case round =>
   clear r3 q3 hb3
   obtain ⟨k, hkn, rfl, r4, q4, hbw, hz⟩ := hrel
   have hcn := rng_n' hVl.out HR.out r4
   by_cases hlt : (k : Int) < n
   ·have hk : k < 128 := by have := HN.out; omega
    have hb1 := Lib.hid (fun w' => hbt.out k hk w')
    have hb2 := Lib.hid (fun w' => hbt2.out k hk w')
    have hbk := bitL_le a.b k
    have hbk2 := bitL_le r.a.b k
    by_cases hbe : bitL a.b k = bitL r.a.b k
    ·have HZ := Lib.hid (show ∀ j, j < k + 1 → bitL a.b j = bitL r.a.b j from fun j h2 => by
      by_cases e : j = k
      ·rw [e]; exact hbe
      ·exact hz j (by omega))
     rw [← hbe] at hb2
     generalize bitL a.b k = c at *
     clear hz hbe hbk2 HB HX hbt hbt2
     go_wp2
     clear hcn
     refine wp_region_noPanic ?_
     refine wp_region_held_drew (S := fun w' => Below wr.heap.size wr w') (by kernel_rfl) ((Below.refl _ _).drew) (fun hHeld => ?_)
     have hB := hHeld
     refine rtake 0 _ (some 28) _ rfl rfl (by kernel_rfl) (by kernel_rfl) (by kernel_rfl) (fun _ _ _ h => h) (by rfl) hHeld (by intro w hS; exact run_load_op 26 (.tmp 3) rfl _ 0 rfl V2 _ (row_range (q4.later hS q4.lt)) Tryz.underlying26 rfl hzA.out) ?_
     try (first | (rw [put_some]; dsimp only [List.set]) | rw [put_none])
     refine rtake 1 _ (some 29) _ rfl rfl (by kernel_rfl) (by kernel_rfl) (by kernel_rfl) (fun _ _ _ h => h) (by rfl) hHeld (by intro w hS; go_simp; try with_reducible rfl) ?_
     try (first | (rw [put_some]; dsimp only [List.set]) | rw [put_none])
     refine rtake 3 _ (some 31) _ rfl rfl (by kernel_rfl) (by kernel_rfl) (by kernel_rfl) (fun _ _ _ h => h) (by rfl) hHeld (by intro w hS; go_simp; try with_reducible rfl) ?_
     try (first | (rw [put_some]; dsimp only [List.set]) | rw [put_none])
     refine rtake 4 _ (some 32) _ rfl rfl (by kernel_rfl) (by kernel_rfl) (by kernel_rfl) (fun _ _ _ h => h) (by rfl) hHeld (by intro w hS; exact run_load_op 26 (.tmp 31) rfl _ 0 rfl V _ (row_part' HR.out (r4.later hS r4.lt)) Tryz.underlying26 rfl hzV.out) ?_
     try (first | (rw [put_some]; dsimp only [List.set]) | rw [put_none])
     refine rtake 5 _ (some 33) _ rfl rfl (by kernel_rfl) (by kernel_rfl) (by kernel_rfl) (fun _ _ _ h => h) (by rfl) hHeld (by intro w hS; go_simp; try with_reducible rfl) ?_
     try (first | (rw [put_some]; dsimp only [List.set]) | rw [put_none])
     refine wpAnyH_ready (rs := [2]) (by kernel_rfl) (by simp) (AllReadyH.cons (o := _) rfl (fun K hK => ?_) AllReadyH.nil)
     go_simp
     refine (hb1.out _).mono ?_; rintro e wwr2 ⟨rfl, hqwr2⟩
     try go_wp2_with fail
     refine hK.out _ _ (hHeld.trans (hqwr2.mono hHeld.size)) (fun hHeld' => ?_)
     clear hK K
     try (first | (rw [put_some]; dsimp only [List.set]) | rw [put_none])
     have hB := below_step hB hqwr2
     have hB2 : Below wwr2.heap.size wwr2 wwr2 := Below.refl _ _
     refine wpAnyH_narrow (S' := fun w' => Below wwr2.heap.size wwr2 w') (fun _ h => (hHeld.trans (hqwr2.mono hHeld.size)).trans (h.mono (hHeld.trans (hqwr2.mono hHeld.size)).size)) _ _ _ _ ?_
     clear hHeld
     have hHeld : Below wwr2.heap.size wwr2 wwr2 := Below.refl _ _
     refine wpAnyH_ready (rs := [6]) (by kernel_rfl) (by simp) (AllReadyH.cons (o := _) rfl (fun K hK => ?_) AllReadyH.nil)
     go_simp
     refine (hb2.out _).mono ?_; rintro e wwr6 ⟨rfl, hqwr6⟩
     try go_wp2_with fail
     refine hK.out _ _ (hHeld.trans (hqwr6.mono hHeld.size)) (fun hHeld' => ?_)
     clear hK K
     try (first | (rw [put_some]; dsimp only [List.set]) | rw [put_none])
     have hB := below_step hB hqwr6
     have hB2 := below_step hB2 hqwr6
     have hB6 : Below wwr6.heap.size wwr6 wwr6 := Below.refl _ _
     refine wpAnyH_narrow (S' := fun w' => Below wwr6.heap.size wwr6 w') (fun _ h => (hHeld.trans (hqwr6.mono hHeld.size)).trans (h.mono (hHeld.trans (hqwr6.mono hHeld.size)).size)) _ _ _ _ ?_
     clear hHeld
     have hHeld : Below wwr6.heap.size wwr6 wwr6 := Below.refl _ _
     refine rtake 7 _ (some 35) _ rfl rfl (by kernel_rfl) (by kernel_rfl) (by kernel_rfl) (fun _ _ _ h => h) (by rfl) hHeld (by intro w hS; go_simp; try with_reducible rfl) ?_
     try (first | (rw [put_some]; dsimp only [List.set]) | rw [put_none])
     refine wpAnyH_done (by kernel_rfl) ?_ _
     refine NoPanic.normal ?_
     have r5 := r4.later hB r4.lt
     have q5 := q4.later hB q4.lt
     have hbe := hbw.trans (hB.mono hbw.size)
     clear hB r4 q4 hbw
     clear hHeld
     go_wp2
     go_roundw
     case rel => exact ⟨k + 1, by omega, by go_num, r5, q5, hbe, HZ.out⟩
     case measure => simp [intOf]; omega
    ·have HC := Lib.hid (HX.out k (by omega) hbe)
     have hne : ((bitL a.b k : Int) == (bitL r.a.b k : Int)) = false := by rw [beq_eq_false_iff_ne]; omega
     generalize bitL a.b k = c at *
     generalize bitL r.a.b k = c2 at *
     clear hz hbe HB HX hbt hbt2
     go_wp2
     clear hcn
     refine wp_region_noPanic ?_
     refine wp_region_held_drew (S := fun w' => Below wr.heap.size wr w') (by kernel_rfl) ((Below.refl _ _).drew) (fun hHeld => ?_)
     have hB := hHeld
     refine rtake 0 _ (some 28) _ rfl rfl (by kernel_rfl) (by kernel_rfl) (by kernel_rfl) (fun _ _ _ h => h) (by rfl) hHeld (by intro w hS; exact run_load_op 26 (.tmp 3) rfl _ 0 rfl V2 _ (row_range (q4.later hS q4.lt)) Tryz.underlying26 rfl hzA.out) ?_
     try (first | (rw [put_some]; dsimp only [List.set]) | rw [put_none])
     refine rtake 1 _ (some 29) _ rfl rfl (by kernel_rfl) (by kernel_rfl) (by kernel_rfl) (fun _ _ _ h => h) (by rfl) hHeld (by intro w hS; go_simp; try with_reducible rfl) ?_
     try (first | (rw [put_some]; dsimp only [List.set]) | rw [put_none])
     refine rtake 3 _ (some 31) _ rfl rfl (by kernel_rfl) (by kernel_rfl) (by kernel_rfl) (fun _ _ _ h => h) (by rfl) hHeld (by intro w hS; go_simp; try with_reducible rfl) ?_
     try (first | (rw [put_some]; dsimp only [List.set]) | rw [put_none])
     refine rtake 4 _ (some 32) _ rfl rfl (by kernel_rfl) (by kernel_rfl) (by kernel_rfl) (fun _ _ _ h => h) (by rfl) hHeld (by intro w hS; exact run_load_op 26 (.tmp 31) rfl _ 0 rfl V _ (row_part' HR.out (r4.later hS r4.lt)) Tryz.underlying26 rfl hzV.out) ?_
     try (first | (rw [put_some]; dsimp only [List.set]) | rw [put_none])
     refine rtake 5 _ (some 33) _ rfl rfl (by kernel_rfl) (by kernel_rfl) (by kernel_rfl) (fun _ _ _ h => h) (by rfl) hHeld (by intro w hS; go_simp; try with_reducible rfl) ?_
     try (first | (rw [put_some]; dsimp only [List.set]) | rw [put_none])
     refine wpAnyH_ready (rs := [2]) (by kernel_rfl) (by simp) (AllReadyH.cons (o := _) rfl (fun K hK => ?_) AllReadyH.nil)
     go_simp
     refine (hb1.out _).mono ?_; rintro e wwr2 ⟨rfl, hqwr2⟩
     try go_wp2_with fail
     refine hK.out _ _ (hHeld.trans (hqwr2.mono hHeld.size)) (fun hHeld' => ?_)
     clear hK K
     try (first | (rw [put_some]; dsimp only [List.set]) | rw [put_none])
     have hB := below_step hB hqwr2
     have hB2 : Below wwr2.heap.size wwr2 wwr2 := Below.refl _ _
     refine wpAnyH_narrow (S' := fun w' => Below wwr2.heap.size wwr2 w') (fun _ h => (hHeld.trans (hqwr2.mono hHeld.size)).trans (h.mono (hHeld.trans (hqwr2.mono hHeld.size)).size)) _ _ _ _ ?_
     clear hHeld
     have hHeld : Below wwr2.heap.size wwr2 wwr2 := Below.refl _ _
     refine wpAnyH_ready (rs := [6]) (by kernel_rfl) (by simp) (AllReadyH.cons (o := _) rfl (fun K hK => ?_) AllReadyH.nil)
     go_simp
     refine (hb2.out _).mono ?_; rintro e wwr6 ⟨rfl, hqwr6⟩
     try go_wp2_with fail
     refine hK.out _ _ (hHeld.trans (hqwr6.mono hHeld.size)) (fun hHeld' => ?_)
     clear hK K
     try (first | (rw [put_some]; dsimp only [List.set]) | rw [put_none])
     have hB := below_step hB hqwr6
     have hB2 := below_step hB2 hqwr6
     have hB6 : Below wwr6.heap.size wwr6 wwr6 := Below.refl _ _
     refine wpAnyH_narrow (S' := fun w' => Below wwr6.heap.size wwr6 w') (fun _ h => (hHeld.trans (hqwr6.mono hHeld.size)).trans (h.mono (hHeld.trans (hqwr6.mono hHeld.size)).size)) _ _ _ _ ?_
     clear hHeld
     have hHeld : Below wwr6.heap.size wwr6 wwr6 := Below.refl _ _
     refine rtake 7 _ (some 35) _ rfl rfl (by kernel_rfl) (by kernel_rfl) (by kernel_rfl) (fun _ _ _ h => h) (by rfl) hHeld (by intro w hS; go_simp; try with_reducible rfl) ?_
     try (first | (rw [put_some]; dsimp only [List.set]) | rw [put_none])
     refine wpAnyH_done (by kernel_rfl) ?_ _
     refine NoPanic.normal ?_
     have r5 := r4.later hB r4.lt
     have q5 := q4.later hB q4.lt
     have hbe := hbw.trans (hB.mono hbw.size)
     clear hB r4 q4 hbw
     clear hHeld
     go_wp2
     go_ret
     exact ⟨by rw [HC.out]; rfl, hbe⟩
   ·obtain rfl : n = (k : Int) := by omega
    have HC := Lib.hid (HB.out (by simpa using hz))
    clear hz HB HX hbt hbt2
    go_wp2
    go_ret
    exact ⟨by rw [HC.out]; rfl, hbw⟩
 ·rw [c1] at hcr
  have HC := Lib.hid c4
  clear c1 c4 HB HLm hbt hbt2
  go_enter Tryz.func36, Tryz.ntmps36
  go_wp2_with (first
  | (have _t := tok1; rw [← HW.out]; clear tok1; with_reducible refine wpList_load_mid rfl 28 (.tmp 2) rfl w.heap.size 0 rfl R _ (row_range r1) Tryz.underlying28 rfl hzR.out ?_)
  | (go_at_call 69; refine (hcr.out _).mono ?_; rintro e w2 ⟨rfl, hb2⟩; have r2 := r1.later hb2 r1.lt; have q2 := q1.later hb2 q1.lt; have hb2 := hb1.trans (hb2.mono hb1.size))
  | (refine wpList_step fun K hK => ?_; refine step_load_mid (some 10) rfl (by rfl) 26 (.tmp 3) rfl (w.heap.size + 1) 0 rfl V2 _ (row_range q2) Tryz.underlying26 rfl hzA.out ?_; refine hK _ _ ?_; clear hK)
  | (go_at_call 45; refine (hca.out _).mono ?_; rintro e w3 ⟨rfl, hb3⟩; have r3 := r2.later hb3 r2.lt; have q3 := q2.later hb3 q2.lt; have hb3 := hb2.trans (hb3.mono hb2.size); have hc0 := (r3.cell 0).trans HV0.out; have hc1 := (q3.cell 0).trans HA0.out))
  go_ret
  exact ⟨by rw [HC.out]; rfl, hb2⟩
 ·rw [c1] at hcr
  rw [c2] at hca
  clear c2
  have HC := Lib.hid c4
  clear c1 c4 HB HLm hbt hbt2
  go_enter Tryz.func36, Tryz.ntmps36
  go_wp2_with (first
  | (have _t := tok1; rw [← HW.out]; clear tok1; with_reducible refine wpList_load_mid rfl 28 (.tmp 2) rfl w.heap.size 0 rfl R _ (row_range r1) Tryz.underlying28 rfl hzR.out ?_)
  | (go_at_call 69; refine (hcr.out _).mono ?_; rintro e w2 ⟨rfl, hb2⟩; have r2 := r1.later hb2 r1.lt; have q2 := q1.later hb2 q1.lt; have hb2 := hb1.trans (hb2.mono hb1.size))
  | (refine wpList_step fun K hK => ?_; refine step_load_mid (some 10) rfl (by rfl) 26 (.tmp 3) rfl (w.heap.size + 1) 0 rfl V2 _ (row_range q2) Tryz.underlying26 rfl hzA.out ?_; refine hK _ _ ?_; clear hK)
  | (go_at_call 45; refine (hca.out _).mono ?_; rintro e w3 ⟨rfl, hb3⟩; have r3 := r2.later hb3 r2.lt; have q3 := q2.later hb3 q2.lt; have hb3 := hb2.trans (hb3.mono hb2.size); have hc0 := (r3.cell 0).trans HV0.out; have hc1 := (q3.cell 0).trans HA0.out))
  go_ret
  exact ⟨by rw [HC.out]; rfl, hb3⟩
 ·rw [c1] at hcr
  rw [c2] at hca
  have hne : (a.v6 == r.a.v6) = false := by rw [beq_eq_false_iff_ne]; exact c3
  generalize a.v6 = x at *
  generalize r.a.v6 = y at *
  clear c2 c3
  have HC := Lib.hid c4
  clear c1 c4 HB HLm hbt hbt2
  go_enter Tryz.func36, Tryz.ntmps36
  go_wp2_with (first
  | (have _t := tok1; rw [← HW.out]; clear tok1; with_reducible refine wpList_load_mid rfl 28 (.tmp 2) rfl w.heap.size 0 rfl R _ (row_range r1) Tryz.underlying28 rfl hzR.out ?_)
  | (go_at_call 69; refine (hcr.out _).mono ?_; rintro e w2 ⟨rfl, hb2⟩; have r2 := r1.later hb2 r1.lt; have q2 := q1.later hb2 q1.lt; have hb2 := hb1.trans (hb2.mono hb1.size))
  | (refine wpList_step fun K hK => ?_; refine step_load_mid (some 10) rfl (by rfl) 26 (.tmp 3) rfl (w.heap.size + 1) 0 rfl V2 _ (row_range q2) Tryz.underlying26 rfl hzA.out ?_; refine hK _ _ ?_; clear hK)
  | (go_at_call 45; refine (hca.out _).mono ?_; rintro e w3 ⟨rfl, hb3⟩; have r3 := r2.later hb3 r2.lt; have q3 := q2.later hb3 q2.lt; have hb3 := hb2.trans (hb3.mono hb2.size); have hc0 := (r3.cell 0).trans HV0.out; have hc1 := (q3.cell 0).trans HA0.out))
  go_ret
  exact ⟨by rw [HC.out]; rfl, hb3⟩
theorem eight_of (l : List Nat) (h : l.length = 8) : ∃ a b c d e f g i : Nat, l = [a, b, c, d, e, f, g, i] := by
 match l, h with
 | [a, b, c, d, e, f, g, i], _ => exact ⟨a, b, c, d, e, f, g, i, rfl⟩
def zB : List Bool → Nat
 | [] => 0
 | z :: zs => if z then zB zs + 1 else 0
def bestB (l : List Bool) : Nat := (List.range l.length).foldl (fun best i => if zB (l.drop i) > zB (l.drop best) then i else best) 0
theorem zB_eq (l : List Nat) : zB (l.map fun n => decide (n = 0)) = zerosL l := by
 induction l with
 | nil => rfl
 | cons n l ih => rw [List.map_cons, zB, zerosL, ih]; by_cases h : n = 0 <;> simp [h]
theorem bestB_eq (l : List Nat) : bestB (l.map fun n => decide (n = 0)) = bestL l := by
 unfold bestB bestL
 simp only [← List.map_drop, zB_eq, List.length_map]
theorem bestL_le : ∀ a b c d e f g h : Bool, bestB [a, b, c, d, e, f, g, h] + zB ([a, b, c, d, e, f, g, h].drop (bestB [a, b, c, d, e, f, g, h])) ≤ 8 := by decide
theorem best_le (l : List Nat) (h8 : l.length = 8) : bestL l + zerosL (l.drop (bestL l)) ≤ 8 := by
 rw [← bestB_eq, ← zB_eq, List.map_drop]
 obtain ⟨a, b, c, d, e, f, g, h, rfl⟩ := eight_of l h8
 exact bestL_le _ _ _ _ _ _ _ _
theorem glue_len1 (x : UInt8) (ps : List (List UInt8)) (m : Nat) (hm : ∀ p ∈ ps, p.length ≤ m) : (glueL x ps).length + 1 ≤ (m + 1) * ps.length + (if ps = [] then 1 else 0) := by
 induction ps with
 | nil => simp [glueL]
 | cons p ps ih =>
  have h1 := hm p (List.mem_cons_self ..)
  have h2 := ih (fun q hq => hm q (List.mem_cons_of_mem _ hq))
  cases ps with
  | nil => show p.length + 1 ≤ _; simp; omega
  | cons q ps =>
   rw [glueL_cons x p (q :: ps) (by simp), List.length_append, List.length_cons, if_neg (by simp)]
   rw [if_neg (by simp)] at h2
   rw [List.length_cons, Nat.mul_succ]
   omega
theorem joinN_len5 (l : List Nat) (hm : ∀ n ∈ l, n ≤ 65535) : (joinN l).length ≤ 5 * l.length := by
 rw [joinN_glue]
 have := glue_len1 58 (l.map (numL 16)) 4 (by
  intro p hp
  obtain ⟨n, hn, rfl⟩ := List.mem_map.1 hp
  exact numL16_len n (hm n hn))
 rw [List.length_map] at this
 split at this <;> omega
theorem joinN_len8 (l : List Nat) (h8 : l.length = 8) (hm : ∀ n ∈ l, n ≤ 65535) : (joinN l).length ≤ 39 := by
 rw [joinN_glue]
 have := glue_len1 58 (l.map (numL 16)) 4 (by
  intro p hp
  obtain ⟨n, hn, rfl⟩ := List.mem_map.1 hp
  exact numL16_len n (hm n hn))
 rw [List.length_map, h8, if_neg (by intro h; have := congrArg List.length h; simp [h8] at this)] at this
 omega
theorem textA_len (a : Adr) : (textA a).length ≤ 39 := by
 unfold textA
 split
 ·split
  ·unfold textN
   dsimp only
   have h8 := numsA_len a
   have hm := numsA_le a
   split
   ·exact joinN_len8 _ h8 hm
   ·rename_i hz
    have h1 := joinN_len5 ((numsA a).take (bestL (numsA a))) (fun n hn => hm n (List.mem_of_mem_take hn))
    have h2 := joinN_len5 ((numsA a).drop (bestL (numsA a) + zerosL ((numsA a).drop (bestL (numsA a))))) (fun n hn => hm n (List.mem_of_mem_drop hn))
    have h3 := best_le (numsA a) h8
    rw [List.length_take] at h1
    rw [List.length_drop] at h2
    rw [List.length_append, List.length_cons, List.length_cons]
    omega
  ·have k0 := numL10_len (a.b.getD 0 0).toNat (by have := (a.b.getD 0 0).toNat_lt; omega)
   have k1 := numL10_len (a.b.getD 1 0).toNat (by have := (a.b.getD 1 0).toNat_lt; omega)
   have k2 := numL10_len (a.b.getD 2 0).toNat (by have := (a.b.getD 2 0).toNat_lt; omega)
   have k3 := numL10_len (a.b.getD 3 0).toNat (by have := (a.b.getD 3 0).toNat_lt; omega)
   simp only [List.length_append, List.length_cons]
   omega
 ·simp
theorem hexD_dec (n : Nat) (h : n < 10) : ((hexD n).toNat : Int) = 48 + (n : Int) := by
 have : n = 0 ∨ n = 1 ∨ n = 2 ∨ n = 3 ∨ n = 4 ∨ n = 5 ∨ n = 6 ∨ n = 7 ∨ n = 8 ∨ n = 9 := by omega
 rcases this with rfl | rfl | rfl | rfl | rfl | rfl | rfl | rfl | rfl | rfl <;> rfl
set_option maxHeartbeats 1000000 in
theorem rnum13_any (k : Nat) : ∀ (n : Nat) (w : World), n ≤ k → n ≤ 9223372036854775807 →
  Calls Tryz.prog 125 #[.int .i64 n] w fun e w' => e = .returned (.string (bstr (numL 10 n))) ∧ Below w.heap.size w w' := by
 induction k using Nat.strongRecOn with
 | _ k ih =>
  intro n w hk hm
  by_cases hlt : n < 10
  ·have hN := Lib.hid (numL_small 10 n hlt)
   have hlt' : (n : Int) < 10 := by omega
   have hd := hexD_dec n hlt
   generalize hexD n = x at *
   have hw1 : IntKind.i64.wrap (48 + (n : Int)) = (x.toNat : Int) := by rw [IntKind.wrap_i64]; omega
   have hxl := x.toNat_lt
   have hw2 : IntKind.u8.wrap (x.toNat : Int) = (x.toNat : Int) := by rw [IntKind.wrap_u8]; omega
   have hw3 : IntKind.u8.wrap (48 + (n : Int)) = (x.toNat : Int) := by rw [IntKind.wrap_u8]; omega
   have hd2 : 48 + (n : Int) = (x.toNat : Int) := hd.symm
   have hsl := sl_lit w [x] #[.int .u8 (x.toNat : Int)] (0, 0) rfl 1 rfl
   have hcv := conv_bytes hsl 1 rfl
   have hb : Below w.heap.size w (w.alloc (.cells #[.int .u8 (x.toNat : Int)] 5 (0, 0))) := (Below.refl _ w).alloc (Nat.le_refl _) _
   clear hsl ih hd
   go_enter Tryz.func125, Tryz.ntmps125
   go_wp2_with fail
   go_ret
   exact ⟨by rw [hN.out]; rfl, hb⟩
  ·have hge : (10 : Int) ≤ (n : Int) := by omega
   have hN := Lib.hid (numL_great 10 n (by omega) (by omega))
   have hq := Lib.hid (show ∀ w', Calls Tryz.prog 125 #[.int .i64 ((n : Int) / 10)] w' fun e w'' => e = .returned (.string (bstr (numL 10 (n / 10)))) ∧ Below w'.heap.size w' w'' from fun w' => ih (n / 10) (by omega) (n / 10) w' (Nat.le_refl _) (by omega))
   have hr := Lib.hid (show ∀ w', Calls Tryz.prog 125 #[.int .i64 ((n : Int) % 10)] w' fun e w'' => e = .returned (.string (bstr [hexD (n % 10)])) ∧ Below w'.heap.size w' w'' from by
    rw [← numL_small 10 (n % 10) (by omega)]; exact fun w' => ih (n % 10) (by omega) (n % 10) w' (Nat.le_refl _) (by omega))
   have hY := numL_len 10 (by omega) 62 (n / 10) (by omega)
   generalize hXn : numL 10 n = X at *
   generalize numL 10 (n / 10) = Y at *
   have hZ : [hexD (n % 10)].length = 1 := rfl
   generalize [hexD (n % 10)] = Z at *
   have hl1 : (bstr Y).size + (bstr Z).size ≤ 9223372036854775807 := by rw [size_bstr, size_bstr]; omega
   have hl2 : ¬ 9223372036854775807 < (bstr Y).size + (bstr Z).size := by omega
   have hw1 : IntKind.i64.wrap ((n : Int) / 10) = (n : Int) / 10 := by rw [IntKind.wrap_i64]; omega
   have hw2 : ((n : Int)).tmod 10 = (n : Int) % 10 := Int.tmod_eq_emod_of_nonneg (by omega)
   clear ih hXn
   have tok1 : True := trivial
   go_enter Tryz.func125, Tryz.ntmps125
   go_wp2_with (first
    | (go_at_call 125; have _t := tok1; refine (hq.out _).mono ?_; rintro e w2 ⟨rfl, hb2⟩; clear tok1)
    | (go_at_call 125; refine (hr.out _).mono ?_; rintro e w3 ⟨rfl, hb3⟩; have hb3 := hb2.trans (hb3.mono hb2.size)))
   go_ret
   exact ⟨by rw [hN.out, ← bstr_cat12]; rfl, hb3⟩
set_option maxHeartbeats 2000000 in
theorem rtext13_any (r : Rng) (h : r.Ok) (w : World) :
  Calls Tryz.prog 94 #[.agg (rngV r).toArray] w fun e w' => e = .returned (.string (bstr (textR r))) ∧ Below w.heap.size w w' := by
 have hcr := Lib.hid (fun w' => rcheckR_any r h w')
 have htx := Lib.hid (fun w' => rtextA_any r.a h.a w')
 have hlim := checkR_lim r
 obtain ⟨R, hR⟩ : ∃ R, R = rngV r := ⟨_, rfl⟩
 obtain ⟨V, hV⟩ : ∃ V, V = adrV r.a := ⟨_, rfl⟩
 have HR := Lib.hid (show R = V ++ [Value.int .i64 r.n] by rw [hR, hV]; rfl)
 have hVl := Lib.hid (show V.length = 17 by rw [hV]; exact length_adrV h.a)
 have hzV := Lib.hid (show (Tryz.prog.info? 26).map (·.size) = some V.length by rw [hVl.out]; exact size_adr)
 have hzR := Lib.hid (show (Tryz.prog.info? 28).map (·.size) = some R.length by rw [hR, length_rngV' r h.a]; exact size_rng)
 rw [← hR] at hcr ⊢
 rw [← hV] at htx
 clear hR hV
 obtain ⟨w1, hw1⟩ : ∃ w1, w1 = w.alloc (.cells R.toArray 28) := ⟨_, rfl⟩
 have r1 : Row w1 w.heap.size 28 R := by rw [hw1]; exact Row.new w _ _
 have hb1 : Below w.heap.size w w1 := by rw [hw1]; exact (Below.refl _ w).alloc (Nat.le_refl _) _
 have HW := Lib.hid hw1
 clear hw1
 have tok1 : True := trivial
 cases hc : checkR r with
 | false =>
  have HX := Lib.hid (show textR r = [] by unfold textR; rw [hc]; rfl)
  rw [hc] at hcr
  clear hc hlim
  go_enter Tryz.func94, Tryz.ntmps94
  go_wp2_with (first
   | (have _t := tok1; rw [← HW.out]; clear tok1; with_reducible refine wpList_load_mid rfl 28 (.tmp 1) rfl w.heap.size 0 rfl R _ (row_range r1) Tryz.underlying28 rfl hzR.out ?_)
   | (go_at_call 69; refine (hcr.out _).mono ?_; rintro e w2 ⟨rfl, hb2⟩; have hb2 := hb1.trans (hb2.mono hb1.size)))
  go_ret
  exact ⟨by rw [HX.out]; rfl, hb2⟩
 | true =>
  obtain ⟨-, n0, n1⟩ := hlim hc
  have HX := Lib.hid (show textR r = (textA r.a ++ [47]) ++ numL 10 r.n.toNat by rw [textR_ok r hc]; simp)
  have hnm := Lib.hid (show ∀ w', Calls Tryz.prog 125 #[.int .i64 r.n] w' fun e w'' => e = .returned (.string (bstr (numL 10 r.n.toNat))) ∧ Below w'.heap.size w' w'' from fun w' => by
   have := rnum13_any r.n.toNat r.n.toNat w' (Nat.le_refl _) (by omega)
   rw [Int.toNat_of_nonneg n0] at this
   exact this)
  have hl1 := textA_len r.a
  have hl2 := numL_len 10 (by omega) 2 r.n.toNat (by omega)
  rw [hc] at hcr
  generalize textA r.a = A at *
  generalize numL 10 r.n.toNat = B at *
  generalize hn : r.n = n at *
  have hs1 : (bstr A).size ≤ 39 := by rw [size_bstr]; exact hl1
  have hs2 : (bstr B).size ≤ 3 := by rw [size_bstr]; exact hl2
  clear hc hlim n0 n1 hl1 hl2 hn
  go_enter Tryz.func94, Tryz.ntmps94
  go_wp2_with (first
   | (have _t := tok1; rw [← HW.out]; clear tok1; with_reducible refine wpList_load_mid rfl 28 (.tmp 1) rfl w.heap.size 0 rfl R _ (row_range r1) Tryz.underlying28 rfl hzR.out ?_)
   | (go_at_call 69; refine (hcr.out _).mono ?_; rintro e w2 ⟨rfl, hb2⟩; have r2 := r1.later hb2 r1.lt; have hb2 := hb1.trans (hb2.mono hb1.size)))
  refine wp_region_noPanic ?_
  refine wp_region_held_drew (S := fun w' => Below w2.heap.size w2 w') (by kernel_rfl) ((Below.refl _ _).drew) (fun hHeld => ?_)
  have hB := hHeld
  refine rtake 0 _ (some 6) _ rfl rfl (by kernel_rfl) (by kernel_rfl) (by kernel_rfl) (fun _ _ _ h => h) (by rfl) hHeld (by intro w hS; go_simp; try with_reducible rfl) ?_
  try (first | (rw [put_some]; dsimp only [List.set]) | rw [put_none])
  refine rtake 1 _ (some 7) _ rfl rfl (by kernel_rfl) (by kernel_rfl) (by kernel_rfl) (fun _ _ _ h => h) (by rfl) hHeld (by intro w hS; exact run_load_op 26 (.tmp 6) rfl _ 0 rfl V _ (row_part' HR.out (r2.later hS r2.lt)) Tryz.underlying26 rfl hzV.out) ?_
  try (first | (rw [put_some]; dsimp only [List.set]) | rw [put_none])
  refine rtake 4 _ (some 10) _ rfl rfl (by kernel_rfl) (by kernel_rfl) (by kernel_rfl) (fun _ _ _ h => h) (by rfl) hHeld (by intro w hS; go_simp; try with_reducible rfl) ?_
  try (first | (rw [put_some]; dsimp only [List.set]) | rw [put_none])
  refine rtake 5 _ (some 11) _ rfl rfl (by kernel_rfl) (by kernel_rfl) (by kernel_rfl) (fun _ _ _ h => h) (by rfl) hHeld (by intro w hS; have hcn := rng_n' hVl.out HR.out (r2.later hS r2.lt); go_simp; try with_reducible rfl) ?_
  try (first | (rw [put_some]; dsimp only [List.set]) | rw [put_none])
  refine wpAnyH_ready (rs := [2]) (by kernel_rfl) (by simp) (AllReadyH.cons (o := _) rfl (fun K hK => ?_) AllReadyH.nil)
  go_simp
  refine (htx.out _).mono ?_; rintro e ww22 ⟨rfl, hqw22⟩
  try go_wp2_with fail
  refine hK.out _ _ (hHeld.trans (hqw22.mono hHeld.size)) (fun hHeld' => ?_)
  clear hK K
  try (first | (rw [put_some]; dsimp only [List.set]) | rw [put_none])
  have hB := below_step hB hqw22
  have hB2 : Below ww22.heap.size ww22 ww22 := Below.refl _ _
  refine wpAnyH_narrow (S' := fun w' => Below ww22.heap.size ww22 w') (fun _ h => (hHeld.trans (hqw22.mono hHeld.size)).trans (h.mono (hHeld.trans (hqw22.mono hHeld.size)).size)) _ _ _ _ ?_
  clear hHeld
  have hHeld : Below ww22.heap.size ww22 ww22 := Below.refl _ _
  refine rtake 3 _ (some 9) _ rfl rfl (by kernel_rfl) (by kernel_rfl) (by kernel_rfl) (fun _ _ _ h => h) (by rfl) hHeld (by intro w hS; go_simp; rw [if_neg (by (try simp only [ByteArray.size_append]); (try simp only [show ({ data := #[47] } : ByteArray).size = 1 from rfl]); omega)]) ?_
  try (first | (rw [put_some]; dsimp only [List.set]) | rw [put_none])
  refine wpAnyH_ready (rs := [6]) (by kernel_rfl) (by simp) (AllReadyH.cons (o := _) rfl (fun K hK => ?_) AllReadyH.nil)
  go_simp
  refine (hnm.out _).mono ?_; rintro e ww26 ⟨rfl, hqw26⟩
  try go_wp2_with fail
  refine hK.out _ _ (hHeld.trans (hqw26.mono hHeld.size)) (fun hHeld' => ?_)
  clear hK K
  try (first | (rw [put_some]; dsimp only [List.set]) | rw [put_none])
  have hB := below_step hB hqw26
  have hB2 := below_step hB2 hqw26
  have hB6 : Below ww26.heap.size ww26 ww26 := Below.refl _ _
  refine wpAnyH_narrow (S' := fun w' => Below ww26.heap.size ww26 w') (fun _ h => (hHeld.trans (hqw26.mono hHeld.size)).trans (h.mono (hHeld.trans (hqw26.mono hHeld.size)).size)) _ _ _ _ ?_
  clear hHeld
  have hHeld : Below ww26.heap.size ww26 ww26 := Below.refl _ _
  refine rtake 7 _ (some 13) _ rfl rfl (by kernel_rfl) (by kernel_rfl) (by kernel_rfl) (fun _ _ _ h => h) (by rfl) hHeld (by intro w hS; go_simp; rw [if_neg (by (try simp only [ByteArray.size_append]); (try simp only [show ({ data := #[47] } : ByteArray).size = 1 from rfl]); omega)]) ?_
  try (first | (rw [put_some]; dsimp only [List.set]) | rw [put_none])
  refine rtake 8 _ (some 2) _ rfl rfl (by kernel_rfl) (by kernel_rfl) (by kernel_rfl) (fun _ _ _ h => h) (by rfl) hHeld (by intro w hS; go_simp; try with_reducible rfl) ?_
  try (first | (rw [put_some]; dsimp only [List.set]) | rw [put_none])
  refine wpAnyH_done (by kernel_rfl) ?_ _
  refine NoPanic.normal ?_
  have hbe := hb2.trans (hB.mono hb2.size)
  clear hHeld
  go_wp2
  go_ret
  exact ⟨by rw [HX.out]; simp only [← bstr_cat12]; rfl, hbe⟩
theorem allAt (P : UInt8 → Bool) (s : List UInt8) (k : Nat) (h : k < s.length) : (s.drop k).all P = (P (s.getD k 0) && (s.drop (k + 1)).all P) := by
 rw [List.drop_eq_getElem_cons h, List.all_cons, List.getD_eq_getElem?_getD, List.getElem?_eq_getElem h]; rfl
theorem name16_iff (s : List UInt8) : name16 s = (decide (1 ≤ s.length) && decide (s.length ≤ 16) && s.all lowB) := rfl
set_option maxHeartbeats 2000000 in
theorem rname16_any (s : List UInt8) (hs : s.length ≤ 100000) (w : World) : Calls Tryz.prog 44 #[.string (bstr s)] w fun e w' => e = .returned (.bool (name16 s)) ∧ w = w' := by
 have hz := size_bstr s
 have HV := Lib.hid (name16_iff s)
 generalize name16 s = V at *
 by_cases h1 : s.length < 1
 ·have HW := Lib.hid (show V = false by rw [HV.out, decide_eq_false (by omega : ¬ 1 ≤ s.length)]; rfl)
  have a1 : (s.length : Int) < 1 := by omega
  clear HV
  go_enter Tryz.func44, Tryz.ntmps44
  go_wp2
  go_ret
  exact ⟨by rw [HW.out]; rfl, rfl⟩
 have a1 : decide ((s.length : Int) < 1) = false := decide_eq_false (by omega)
 by_cases h2 : 16 < s.length
 ·have HW := Lib.hid (show V = false by rw [HV.out, decide_eq_false (by omega : ¬ s.length ≤ 16), Bool.and_false]; rfl)
  have a2 : (16 : Int) < (s.length : Int) := by omega
  clear HV
  go_enter Tryz.func44, Tryz.ntmps44
  go_wp2
  go_ret
  exact ⟨by rw [HW.out]; rfl, rfl⟩
 have a2 : decide ((16 : Int) < (s.length : Int)) = false := decide_eq_false (by omega)
 have HW := Lib.hid (show V = s.all lowB by rw [HV.out, decide_eq_true (show 1 ≤ s.length by omega), decide_eq_true (show s.length ≤ 16 by omega)]; rfl)
 clear HV h1 h2
 go_enter Tryz.func44, Tryz.ntmps44
 go_wp2
 clear a1 a2
 go_loop [3] (fun i => ∃ k : Nat, k ≤ s.length ∧ i = .int .i64 k ∧ (s.drop k).all lowB = s.all lowB) (fun i => s.length - (intOf i).toNat)
 case atStart => exact ⟨0, by omega, rfl, rfl⟩
 case round =>
  obtain ⟨k, hk, rfl, hf⟩ := hrel
  by_cases hlt : k < s.length
  ·have hlt' : (k : Int) < (s.length : Int) := by omega
   have hix := index_bstr s k hlt
   have HA := Lib.hid (allAt lowB s k hlt)
   have HF := Lib.hid hf
   generalize s.getD k 0 = c at *
   clear hf
   by_cases c1 : c.toNat < 97
   ·have HN := Lib.hid (show V = false by rw [HW.out, ← HF.out, HA.out, show lowB c = false by unfold lowB; rw [decide_eq_false (by omega : ¬ 97 ≤ c.toNat)]; rfl, Bool.false_and])
    have c1' : (c.toNat : Int) < 97 := by omega
    clear HA c1
    go_wp2
    go_ret
    exact ⟨by rw [HN.out]; rfl, rfl⟩
   ·have c1' : decide ((c.toNat : Int) < 97) = false := decide_eq_false (by omega)
    by_cases c2 : 122 < c.toNat
    ·have HN := Lib.hid (show V = false by rw [HW.out, ← HF.out, HA.out, show lowB c = false by unfold lowB; rw [decide_eq_false (by omega : ¬ c.toNat ≤ 122), Bool.and_false], Bool.false_and])
     have c2' : (122 : Int) < (c.toNat : Int) := by omega
     clear HA c1 c2
     go_wp2
     go_ret
     exact ⟨by rw [HN.out]; rfl, rfl⟩
    ·have HN := Lib.hid (show (s.drop (k + 1)).all lowB = s.all lowB by rw [← HF.out, HA.out, show lowB c = true by unfold lowB; rw [decide_eq_true (by omega : 97 ≤ c.toNat), decide_eq_true (by omega : c.toNat ≤ 122)]; rfl, Bool.true_and])
     have c2' : decide ((122 : Int) < (c.toNat : Int)) = false := decide_eq_false (by omega)
     clear HA c1 c2
     go_wp2
     go_round
     case rel => exact ⟨k + 1, by omega, by go_num, HN.out⟩
     case measure => simp [intOf]; omega
  ·obtain rfl : k = s.length := by omega
   have HN := Lib.hid (show V = true by rw [HW.out, ← hf, List.drop_length]; rfl)
   clear hf
   go_wp2
   go_ret
   exact ⟨by rw [HN.out]; rfl, rfl⟩
open Go.ChangeShapes Go.WideShapes Go.ChangeAt Go.RowKit
theorem bstr_data (s : ByteArray) : bstr s.data.toList = s := by obtain ⟨⟨l⟩⟩ := s; rfl
theorem cells_str : Tryz.prog.cellsOf 9 = 1 := by kernel_rfl
theorem weights_strs {H : Type} {P : Program} {e : TypeId} (ss : List ByteArray) (s : ByteArray) (h : s ∈ ss) : s.data.toList.length ∈ DataW.weightsAll P e (strs ss : List (DataW H)) := by
 induction ss with
 | nil => cases h
 | cons q ss ih =>
  show _ ∈ DataW.weights P e (.lit (.string q.data.toList)) ++ DataW.weightsAll P e (strs ss)
  rcases List.mem_cons.1 h with rfl | h
  ·exact List.mem_append_left _ (by simp [DataW.weights])
  ·exact List.mem_append_right _ (ih h)
theorem open_strSlice {H : Type} {enc : TypeId × Value → H} {W : World} {held : Bool} {b1 : Nat} {a : Option Addr} {len cap : Nat} {d : DataW H} {p : List MemPlace} {ts : List TypeId} {ds : List (DataW H)}
  (h : DataW.Trod enc Tryz.prog W b1 (fun _ => true) held 23 (.slice a len cap) d p) (hsz : (DataW.weightsEach Tryz.prog ts ds).all (· ≤ reachBytes) = true) {j : Nat} (ht : ts[j]? = some 23) (hd : ds[j]? = some d) :
  ∃ ss : List (List UInt8), len = ss.length ∧ Sl W a cap (strsV ss) ∧ ss.length ≤ 9223372036854775807 ∧ ∀ l ∈ ss, l.length ≤ 140737488351232 := by
 obtain ⟨fuel, hf⟩ := h
 rcases open_strings Tryz.underlying23 Tryz.underlying9 cells_str hf with ⟨hcs, _⟩ | ⟨x, l, c, bs, hcs, _, hl, hm, hz, hx, hcell, _⟩
 ·simp [Value.cells] at hcs
  obtain ⟨rfl, rfl, rfl⟩ := hcs
  exact ⟨[], rfl, ⟨.inl rfl, Nat.le_refl _, fun _ => rfl⟩, by simp, fun l hl => by cases hl⟩
 ·simp [Value.cells] at hcs
  obtain ⟨rfl, rfl, rfl⟩ := hcs
  simp only [Prod.mk.injEq] at hx
  obtain ⟨rfl, _⟩ := hx
  have hbl : bs.length = cap := by simpa using hz
  unfold maxLen at hm
  have hlen : ((bs.take len).map fun s => s.data.toList).length = len := by simp; omega
  have hsv : strsV ((bs.take len).map fun s => s.data.toList) = (bs.take len).map Value.string := by
   unfold strsV
   rw [List.map_map]
   exact List.map_congr_left fun s _ => by show Value.string (bstr s.data.toList) = _; rw [bstr_data]
  refine ⟨(bs.take len).map fun s => s.data.toList, hlen.symm, ⟨?_, by rw [length_strsV, hlen]; exact hl, fun h => by cases h⟩, by rw [hlen]; omega, fun q hq => ?_⟩
  ·by_cases h0 : len = 0
   ·subst h0; exact .inl rfl
   ·obtain ⟨b, off, spot⟩ := x
    have hc0 := hcell 0 (by omega)
    have hspot : spot = none := by simpa [Addr.add] using World.cell?_spot hc0
    subst hspot
    refine .inr ⟨b, off, rfl, ?_, fun i hi => ?_⟩
    ·have := World.block_lt_of_cell? W _ hc0
     rw [Addr.add_lit] at this; exact this
    ·rw [length_strsV, hlen] at hi
     have hci := hcell i (by omega)
     rw [Addr.add_lit] at hci
     rw [hci, hsv]
     simp [hi, show i < bs.length by omega]
  ·obtain ⟨s, hs, rfl⟩ := List.mem_map.1 hq
   have hw := weights_strs (H := H) (P := Tryz.prog) (e := 9) _ _ hs
   have h1 : s.data.toList.length ≤ reachBytes := of_decide_eq_true (List.all_eq_true.1 hsz _ (DataW.weights_mem_each ht hd s.data.toList.length (by
    simp only [DataW.weights, Tryz.underlying23]
    exact List.mem_cons_of_mem _ (List.mem_append_left _ hw))))
   unfold reachBytes at h1
   exact h1
end Go.Proofs.YtjieebmcbpdeiaaGreatDoor
namespace Go.Proofs.YtjieebmcbpdeiaaGreatDoor
set_option maxRecDepth 100000
open Go Go.RowKit
set_option maxHeartbeats 2000000 in
theorem rsplit16_any (s : List UInt8) (x : UInt8) (hs : s.length ≤ 4000) (w : World) :
  Calls Tryz.prog 91 #[.string (bstr s), .int .u8 (x.toNat : Int)] w fun e w' => ∃ v, e = .returned v ∧ w'.ownsRow w.heap.size 9 1 v (splitL x s).length (strsV (splitL x s)) ∧ Below w.heap.size w w' := by
 obtain ⟨i0, hi, hz0, hz1, hz2⟩ := info_parts infoStr
 have hz := size_bstr s
 have hown0 : (w.alloc (.cells #[] 9)).ownsRow w.heap.size 9 1 (.slice (some ⟨w.heap.size, 0, none⟩) 0 0) 0 (strsV []) := World.ownsRow_lit w (e := 9) (size := 1) #[] 0 (Nat.le_refl _) (by unfold maxLen; omega) rfl
 have hb0 : Below w.heap.size w (w.alloc (.cells #[] 9)) := (Below.refl _ w).alloc (Nat.le_refl _) _
 go_enter Tryz.func91, Tryz.ntmps91
 go_wp2
 go_loopw [5, 6, 7] (fun v f i wr => ∃ (out : List (List UInt8)) (g k : Nat), k ≤ s.length + 1 ∧ g ≤ k ∧ i = .int .i64 k ∧ f = .int .i64 g ∧ wr.ownsRow w.heap.size 9 1 v out.length (strsV out) ∧ Below w.heap.size w wr ∧ out.length ≤ k ∧
   (k ≤ s.length ∧ out ++ splitL x (s.drop g) = splitL x s ∧ (∀ c ∈ (s.drop g).take (k - g), c ≠ x) ∨ k = s.length + 1 ∧ out = splitL x s)) (fun _ _ i _ => s.length + 1 - (intOf i).toNat)
 case atStart => exact ⟨[], 0, 0, by omega, by omega, rfl, rfl, hown0, hb0, by simp, .inl ⟨by omega, rfl, by simp⟩⟩
 case round =>
  clear hown0 hb0
  obtain ⟨out, g, k, hk, hg, rfl, rfl, hown, hb, hol, hcase⟩ := hrel
  by_cases hlt : k ≤ s.length
  ·obtain ⟨-, hsp, hno⟩ : k ≤ s.length ∧ out ++ splitL x (s.drop g) = splitL x s ∧ (∀ c ∈ (s.drop g).take (k - g), c ≠ x) := by
    rcases hcase with h | ⟨h, _⟩
    ·exact h
    ·omega
   have hlt' : (k : Int) ≤ (s.length : Int) := by omega
   have hg' : (g : Int) ≤ (k : Int) := by omega
   have hex := extract_bstr12 s g k
   have hbs := hb.size
   have n1 : out.length + 1 ≤ maxLen := by unfold maxLen; omega
   have n2 : (out.length + 1) * 16 ≤ 140737488355328 := by omega
   by_cases he : k = s.length
   ·have heb : ((k : Int) == (s.length : Int)) = true := by rw [he]; exact beq_self_eq_true _
    have HF := Lib.hid (show out ++ [(s.drop g).take (k - g)] = splitL x s by
     have e : (s.drop g).take (k - g) = s.drop g := by rw [List.take_of_length_le]; rw [List.length_drop]; omega
     rw [e] at hno ⊢
     rw [← hsp, splitL_end x _ hno])
    have HK := Lib.hid he
    generalize (s.drop g).take (k - g) = p at *
    clear hcase hsp hno he
    have hslp : Sl (wr.alloc (.cells #[.string (bstr p)] 9)) (some ⟨wr.heap.size, 0, none⟩) 1 (strsV [p]) := sl_made (strsV [p]) rfl 1 rfl
    have howna := hown.alloc (.cells #[.string (bstr p)] 9)
    have hbe := hb.alloc hb.size (.cells #[.string (bstr p)] 9)
    go_wp2_with (at_builtin; refine wpList_append_sl rfl (.tmp 26) (.tmp 31) 23 rfl w.heap.size 9 i0 _ 16 Tryz.underlying23 hi hz0 hz1 hz2 rfl _ out.length (strsV out) rfl howna (some ⟨wr.heap.size, 0, none⟩) 1 1 (strsV [p]) rfl rfl hslp (strsV_one _) n1 n2 hbe.size ?_; intro v3 w3 hown3 hg3; have hb3 := hbe.grown hg3 hbe.size (fun j hj => (howna.lt j hj).1); rw [← strsV_append] at hown3)
    go_roundw
    case rel => exact ⟨out ++ [p], k + 1, k + 1, by omega, by omega, by go_num, by go_num, by rw [List.length_append]; exact hown3, hb3, by rw [List.length_append]; simp; omega, .inr ⟨by rw [HK.out], HF.out⟩⟩
    case measure => simp [intOf]; omega
   ·have heb : ((k : Int) == (s.length : Int)) = false := by rw [beq_eq_false_iff_ne]; omega
    have hlt2 : k < s.length := by omega
    have hix := index_bstr s k hlt2
    by_cases hc : s.getD k 0 = x
    ·have e2 : splitL x (s.drop g) = (s.drop g).take (k - g) :: splitL x (s.drop (k + 1)) := by
      conv => lhs; rw [drop_piece s g k hg hlt2, hc]
      exact splitL_hit x _ _ hno
     have HF := Lib.hid (show (out ++ [(s.drop g).take (k - g)]) ++ splitL x (s.drop (k + 1)) = splitL x s by
      rw [← hsp, e2, List.append_assoc]; rfl)
     rw [hc] at hix
     generalize (s.drop g).take (k - g) = p at *
     clear hcase hsp hno hc e2
     have hslp : Sl (wr.alloc (.cells #[.string (bstr p)] 9)) (some ⟨wr.heap.size, 0, none⟩) 1 (strsV [p]) := sl_made (strsV [p]) rfl 1 rfl
     have howna := hown.alloc (.cells #[.string (bstr p)] 9)
     have hbe := hb.alloc hb.size (.cells #[.string (bstr p)] 9)
     go_wp2_with (at_builtin; refine wpList_append_sl rfl (.tmp 26) (.tmp 31) 23 rfl w.heap.size 9 i0 _ 16 Tryz.underlying23 hi hz0 hz1 hz2 rfl _ out.length (strsV out) rfl howna (some ⟨wr.heap.size, 0, none⟩) 1 1 (strsV [p]) rfl rfl hslp (strsV_one _) n1 n2 hbe.size ?_; intro v3 w3 hown3 hg3; have hb3 := hbe.grown hg3 hbe.size (fun j hj => (howna.lt j hj).1); rw [← strsV_append] at hown3)
     go_roundw
     case rel => exact ⟨out ++ [p], k + 1, k + 1, by omega, by omega, by go_num, by go_num, by rw [List.length_append]; exact hown3, hb3, by rw [List.length_append]; simp; omega, .inl ⟨by omega, HF.out, by simp⟩⟩
     case measure => simp [intOf]; omega
    ·have HN := Lib.hid (show ∀ c ∈ (s.drop g).take (k + 1 - g), c ≠ x by
      rw [take_piece s g k hg hlt2]
      intro c hcm
      rcases List.mem_append.1 hcm with h | h
      ·exact hno c h
      ·rw [List.mem_singleton.1 h]; exact hc)
     have HS := Lib.hid hsp
     have hxc : (((s.getD k 0).toNat : Int) == (x.toNat : Int)) = false := by
      rw [beq_eq_false_iff_ne]
      intro h
      exact hc (UInt8.toNat_inj.1 (by omega))
     generalize s.getD k 0 = y at *
     clear hcase hsp hno hc hex
     go_wp2
     go_roundw
     case rel => exact ⟨out, g, k + 1, by omega, by omega, by go_num, rfl, hown, hb, by omega, .inl ⟨by omega, HS.out, HN.out⟩⟩
     case measure => simp [intOf]; omega
  ·obtain rfl : k = s.length + 1 := by omega
   obtain rfl : out = splitL x s := by
    rcases hcase with ⟨h, _⟩ | ⟨_, h⟩
    ·omega
    ·exact h
   have hgt : (s.length : Int) < ((s.length + 1 : Nat) : Int) := by omega
   clear hcase
   go_wp2
   go_ret
   exact ⟨_, rfl, hown, hb⟩
theorem okAt_zero (l : List (List UInt8)) (i : Nat) (h : i = 0) : okAt l i = name16 (l.getD i []) := by
 subst h
 unfold okAt
 simp
theorem okAt_pos (l : List (List UInt8)) (i : Nat) (h : 0 < i) : okAt l i = (name16 (l.getD i []) && Op.bytesLess (l.getD (i - 1) []) (l.getD i [])) := by
 unfold okAt
 rw [decide_eq_false (by omega : ¬ i = 0), Bool.false_or]
theorem okAt_next (l : List (List UInt8)) (k : Nat) (h : ∀ j < k, okAt l j = true) (hk : okAt l k = true) : ∀ j < k + 1, okAt l j = true := by
 intro j hj
 rcases Nat.lt_succ_iff_lt_or_eq.1 hj with h1 | h1
 ·exact h j h1
 ·rw [h1]; exact hk
set_option maxHeartbeats 2000000 in
theorem rrise_any (l : List (List UInt8)) (hl : l.length ≤ 100000) (hp : ∀ p ∈ l, p.length ≤ 100000) (A : Option Addr) (c : Nat) (w : World) (hsl : Sl w A c (strsV l)) :
  Calls Tryz.prog 92 #[.slice A l.length c] w fun e w' => e = .returned (.bool (riseL l)) ∧ w = w' := by
 obtain ⟨V, hV⟩ : ∃ V, V = riseL l := ⟨_, rfl⟩
 have HV := Lib.hid hV
 rw [← hV]
 clear hV
 by_cases h1 : l.length < 1
 ·have HW := Lib.hid (show V = false by rw [HV.out]; unfold riseL; rw [decide_eq_false (by omega : ¬ 1 ≤ l.length)]; rfl)
  have a1 : (l.length : Int) < 1 := by omega
  clear HV h1
  go_enter Tryz.func92, Tryz.ntmps92
  go_wp2
  go_ret
  exact ⟨by rw [HW.out]; rfl, rfl⟩
 have a1 : decide ((l.length : Int) < 1) = false := decide_eq_false (by omega)
 by_cases h2 : 32 < l.length
 ·have HW := Lib.hid (show V = false by rw [HV.out]; unfold riseL; rw [decide_eq_false (by omega : ¬ l.length ≤ 32), Bool.and_false]; rfl)
  have a2 : (32 : Int) < (l.length : Int) := by omega
  clear HV h1 h2
  go_enter Tryz.func92, Tryz.ntmps92
  go_wp2
  go_ret
  exact ⟨by rw [HW.out]; rfl, rfl⟩
 have a2 : decide ((32 : Int) < (l.length : Int)) = false := decide_eq_false (by omega)
 have HT := Lib.hid (show (∀ i < l.length, okAt l i = true) → V = true from fun h => by rw [HV.out]; exact (riseL_at l).2 ⟨by omega, by omega, h⟩)
 have HFa := Lib.hid (show ∀ i, i < l.length → okAt l i = false → V = false from fun i hi h => by rw [HV.out]; exact riseL_bad l i hi h)
 have hnm := Lib.hid (fun s (h : s ∈ l) w' => rname16_any s (hp s h) w')
 clear HV h1 h2 hp
 go_enter Tryz.func92, Tryz.ntmps92
 go_wp2
 clear a1 a2
 go_loop [15] (fun i => ∃ k : Nat, k ≤ l.length ∧ i = .int .i64 k ∧ ∀ j < k, okAt l j = true) (fun i => l.length - (intOf i).toNat)
 case atStart => exact ⟨0, by omega, rfl, fun j hj => by omega⟩
 case round =>
  obtain ⟨k, hk, rfl, hf⟩ := hrel
  by_cases hlt : k < l.length
  ·have hlt' : (k : Int) < (l.length : Int) := by omega
   obtain ⟨b, o, rfl, -, -⟩ := hsl.rd.get (i := k) (by rw [length_strsV]; exact hlt)
   have hix := index_strs (some ⟨b, o, none⟩) b o l.length c k rfl hlt
   have hce := strs_cell hsl k hlt
   have HF := Lib.hid hf
   have HC := Lib.hid (hnm.out (l.getD k []) (by rw [List.getD_eq_getElem?_getD, List.getElem?_eq_getElem hlt]; exact List.getElem_mem hlt) w)
   clear hf
   by_cases h0 : k = 0
   ·have HA := Lib.hid (okAt_zero l k h0)
    have a3 : decide ((0 : Int) < (k : Int)) = false := decide_eq_false (by omega)
    have a5 : decide (0 < k) = false := decide_eq_false (by omega)
    have HB := Lib.hid (HFa.out k hlt)
    generalize l.getD k [] = s at *
    clear h0
    cases hsg : name16 s with
    | true =>
     have HN := Lib.hid (okAt_next l k HF.out (HA.out.trans hsg))
     rw [hsg] at HC
     clear HA hsg HB
     go_wp2_with (go_at_call 44; refine HC.out.mono ?_; rintro e w' ⟨rfl, rfl⟩)
     go_round
     case rel => exact ⟨k + 1, by omega, by go_num, HN.out⟩
     case measure => simp [intOf]; omega
    | false =>
     have HN := Lib.hid (HB.out (HA.out.trans hsg))
     rw [hsg] at HC
     clear HA hsg HB
     go_wp2_with (go_at_call 44; refine HC.out.mono ?_; rintro e w' ⟨rfl, rfl⟩)
     go_ret
     exact ⟨by rw [HN.out]; rfl, rfl⟩
   ·have HA := Lib.hid (okAt_pos l k (by omega))
    have a3 : (0 : Int) < (k : Int) := by omega
    have a5 : 0 < k := by omega
    have a4 : IntKind.i64.wrap ((k : Int) - 1) = ((k - 1 : Nat) : Int) := by rw [IntKind.wrap_i64]; omega
    have hix2 := index_strs (some ⟨b, o, none⟩) b o l.length c (k - 1) rfl (by omega)
    have hce2 := strs_cell hsl (k - 1) (by omega)
    have HB := Lib.hid (HFa.out k hlt)
    have HL := Lib.hid (show Op.bytesLess (bstr (l.getD (k - 1) [])).toList (bstr (l.getD k [])).toList = Op.bytesLess (l.getD (k - 1) []) (l.getD k []) by rw [bstr_toList, bstr_toList])
    generalize hk1 : k - 1 = k1 at *
    generalize l.getD k [] = s at *
    generalize l.getD k1 [] = s1 at *
    clear h0 hk1
    cases hsg : name16 s with
    | true =>
     cases hle : Op.bytesLess s1 s with
     | true =>
      have HN := Lib.hid (okAt_next l k HF.out (by rw [HA.out, hsg, hle]; rfl))
      have hle2 := HL.out.trans hle
      rw [hsg] at HC
      clear HA hsg HB HL hle
      go_wp2_with (go_at_call 44; refine HC.out.mono ?_; rintro e w' ⟨rfl, rfl⟩)
      go_round
      case rel => exact ⟨k + 1, by omega, by go_num, HN.out⟩
      case measure => simp [intOf]; omega
     | false =>
      have HN := Lib.hid (HB.out (by rw [HA.out, hsg, hle]; rfl))
      have hle2 := HL.out.trans hle
      rw [hsg] at HC
      clear HA hsg HB HL hle
      go_wp2_with (go_at_call 44; refine HC.out.mono ?_; rintro e w' ⟨rfl, rfl⟩)
      go_ret
      exact ⟨by rw [HN.out]; rfl, rfl⟩
    | false =>
     have HN := Lib.hid (HB.out (by rw [HA.out, hsg]; rfl))
     rw [hsg] at HC
     clear HA hsg HB HL
     go_wp2_with (go_at_call 44; refine HC.out.mono ?_; rintro e w' ⟨rfl, rfl⟩)
     go_ret
     exact ⟨by rw [HN.out]; rfl, rfl⟩
  ·obtain rfl : k = l.length := by omega
   have HN := Lib.hid (HT.out hf)
   clear hf
   go_wp2
   go_ret
   exact ⟨by rw [HN.out]; rfl, rfl⟩
def GaveRow (o : Option (List (List UInt8))) (w : World) (e : Ending) (w' : World) : Prop :=
 ∃ (A : Option Addr) (c : Nat), e = .returned (.tuple #[.slice A (o.getD []).length c, .bool o.isSome]) ∧ Sl w' A c (strsV (o.getD [])) ∧ Below w.heap.size w w'
theorem sl_none16 (w : World) : Sl w none 0 (strsV []) := ⟨.inl (by simp [strsV]), by simp [strsV], fun _ => rfl⟩
theorem glue_next (x : UInt8) (l : List (List UInt8)) (k : Nat) (hk : 0 < k) (h : k < l.length) : glueL x (l.take (k + 1)) = glueL x (l.take k) ++ (x :: l.getD k []) := by
 have e : l.take (k + 1) = l.take k ++ [l.getD k []] := by
  rw [List.take_add_one, List.getD_eq_getElem?_getD, List.getElem?_eq_getElem h]; rfl
 rw [e, glueL_app x _ _ (by intro h0; have := congrArg List.length h0; rw [List.length_take, List.length_nil] at this; omega) (by simp)]
 rfl
theorem glue_len (x : UInt8) (l : List (List UInt8)) : (glueL x l).length ≤ sumS l := by
 induction l with
 | nil => exact Nat.zero_le _
 | cons p ps ih =>
  by_cases he : ps = []
  ·subst he
   show p.length ≤ _
   unfold sumS; simp
  ·rw [glueL_cons x p ps he, List.length_append, List.length_cons]
   have e : sumS (p :: ps) = (p.length + 1) + sumS ps := by unfold sumS; simp
   omega
theorem tail_strs (A : Option Addr) (c : Nat) (l : List (List UInt8)) (w0 : World) (h : Sl w0 A c (strsV l)) (n : Nat) (hn : l.length = n + 1) :
  ∃ b o A', A = some ⟨b, o, none⟩ ∧ (∀ w, (Instr.sliceAt 23 (.slice (some ⟨b, o, none⟩) (n + 1) c) (some (.int .i64 1)) none none).run Tryz.prog w = .ok (.slice A' n (c - 1)) w) ∧ Sl w0 A' (c - 1) (strsV (l.drop 1)) := by
 have hr := h.room
 rw [length_strsV] at hr
 obtain ⟨b, o, rfl, hlt, _⟩ := h.rd.get (i := 0) (by rw [length_strsV]; omega)
 refine ⟨b, o, some (if c = 1 then ⟨b, o, none⟩ else ⟨b, o + 1, none⟩), rfl, fun w => ?_, ?_⟩
 ·have h3 : (n : Int) + 1 ≤ (c : Int) := by omega
  clear h hr hlt hn
  have h1 : ((n : Int) + 1 - 1).toNat = n := by omega
  go_simp
  rw [if_pos (by omega)]
  split <;> rfl
 ·rw [strsV_drop]
  exact h.from (k := 1) (by rw [length_strsV]; omega) rfl
set_option maxHeartbeats 2000000 in
theorem rjoin16_any (l : List (List UInt8)) (hl : sumS l ≤ 100000) (A : Option Addr) (c : Nat) (w : World) (hsl : Sl w A c (strsV l)) :
  Calls Tryz.prog 104 #[.slice A l.length c] w fun e w' => e = .returned (.string (bstr (joinL16 l))) ∧ w = w' := by
 have hll := sumS_len l
 have hri := Lib.hid (rrise_any l (by omega) (fun p hp => by have := sumS_mem l p hp; omega) A c w hsl)
 have HV := Lib.hid (show joinL16 l = if riseL l = true then glueL 44 l else [] from rfl)
 generalize joinL16 l = V at *
 cases hr : riseL l with
 | false =>
  have HW := Lib.hid (HV.out.trans (if_neg (by rw [hr]; decide)))
  rw [hr] at hri
  clear HV hr
  go_enter Tryz.func104, Tryz.ntmps104
  go_wp2_with (go_at_call 92; refine hri.out.mono ?_; rintro e w' ⟨rfl, rfl⟩)
  go_ret
  exact ⟨by rw [HW.out]; rfl, rfl⟩
 | true =>
  have HW := Lib.hid (HV.out.trans (if_pos hr))
  have hpos : 1 ≤ l.length := ((riseL_at l).1 hr).1
  obtain ⟨n, hn⟩ : ∃ n, l.length = n + 1 := ⟨l.length - 1, by omega⟩
  obtain ⟨b, o, A1, rfl, hcut, hsl1⟩ := tail_strs A c l w hsl n hn
  have hix0 := index_strs (some ⟨b, o, none⟩) b o (n + 1) c 0 rfl (by omega)
  have hce0 := strs_cell hsl 0 (by omega)
  have HG := Lib.hid (fun k (h0 : 0 < k) (h : k < l.length) => glue_next 44 l k h0 h)
  have HB := Lib.hid (fun k => show (glueL 44 (l.take k)).length ≤ 100000 from Nat.le_trans (glue_len 44 _) (Nat.le_trans (sumS_le l k) hl))
  have HM := Lib.hid (fun k (h : k < l.length) => show (l.getD k []).length ≤ 100000 from by
   have := sumS_mem l (l.getD k []) (by rw [List.getD_eq_getElem?_getD, List.getElem?_eq_getElem h]; exact List.getElem_mem h); omega)
  have HL1 := Lib.hid (show (l.drop 1).length = n by rw [List.length_drop]; omega)
  have HLn := Lib.hid hn
  have HS := Lib.hid (show glueL 44 (l.take 1) = l.getD 0 [] by
   cases l with
   | nil => simp at hpos
   | cons p ps => rfl)
  have HE := Lib.hid (show glueL 44 (l.take (n + 1)) = glueL 44 l by rw [← hn, List.take_length])
  have HD := Lib.hid (show ∀ k, (l.drop 1).getD k [] = l.getD (k + 1) [] by
   intro k; rw [List.getD_eq_getElem?_getD, List.getD_eq_getElem?_getD, List.getElem?_drop, Nat.add_comm])
  rw [hr, hn] at hri
  rw [hn]
  have hnb : n ≤ 100000 := by omega
  clear HV hr hpos hn hll hl hsl
  rw [Nat.add_zero] at hix0 hce0
  go_enter Tryz.func104, Tryz.ntmps104
  go_wp2_with (go_at_call 92; refine hri.out.mono ?_; rintro e w' ⟨rfl, rfl⟩)
  clear hix0 hce0 hri hcut
  go_loop [3, 15] (fun x i => ∃ k : Nat, k ≤ n ∧ i = .int .i64 k ∧ x = .string (bstr (glueL 44 (l.take (k + 1))))) (fun _ i => n - (intOf i).toNat)
  case atStart => exact ⟨0, by omega, rfl, by rw [HS.out, List.getD_eq_getElem?_getD]⟩
  case round =>
   obtain ⟨k, hk, rfl, rfl⟩ := hrel
   by_cases hlt : k < n
   ·have hlt' : (k : Int) < (n : Int) := by omega
    have hk1 : k < (l.drop 1).length := by rw [HL1.out]; exact hlt
    obtain ⟨b1, o1, rfl, -, -⟩ := hsl1.rd.get (i := k) (by rw [length_strsV]; exact hk1)
    have hix := index_strs (some ⟨b1, o1, none⟩) b1 o1 n (c - 1) k rfl hlt
    have hce := strs_cell hsl1 k hk1
    rw [HD.out] at hce
    have hkl : k + 1 < l.length := by have := HLn.out; omega
    have HN := Lib.hid (HG.out (k + 1) (by omega) hkl)
    have hb1 := HB.out (k + 1)
    have hb2 := HM.out (k + 1) hkl
    generalize l.getD (k + 1) [] = p at *
    generalize glueL 44 (l.take (k + 1)) = g at *
    have hzg := size_bstr g
    have hzp := size_bstr p
    have hcm : ({ data := #[44] } : ByteArray) = bstr [44] := rfl
    have hzc : ({ data := #[44] } : ByteArray).size = 1 := rfl
    have hz2 : (({ data := #[44] } : ByteArray) ++ bstr p).size = p.length + 1 := by rw [hcm, bstr_cat12, size_bstr]; simp
    have HC := Lib.hid (show bstr g ++ (({ data := #[44] } : ByteArray) ++ bstr p) = bstr (glueL 44 (l.take (k + 1 + 1))) by rw [HN.out, hcm, bstr_cat12, bstr_cat12]; rfl)
    clear hkl hk1 hcm
    go_wp2
    go_round
    case rel => exact ⟨k + 1, by omega, by go_num, by rw [← HC.out]⟩
    case measure => simp [intOf]; omega
   ·obtain rfl : k = n := by omega
    have HX := Lib.hid (HE.out.trans HW.out.symm)
    go_wp2
    go_ret
    exact ⟨by rw [HX.out]; rfl, rfl⟩
end Go.Proofs.YtjieebmcbpdeiaaGreatDoor
