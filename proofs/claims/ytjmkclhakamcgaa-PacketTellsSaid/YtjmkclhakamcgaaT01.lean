/- LAYER 10, PacketTells: the walk where the token can't be, and the bytes are a token's. -/
import Derived.Test.YtjmkclhakamcgaaTp0
namespace Go.Proofs.Ytjmkclhakamcgaa
open Go Go.RowKit

set_option maxRecDepth 100000 in
set_option maxHeartbeats 4000000 in
theorem ptells_01 (t u : Tok) (ht : t.Ok) (htf : t.Fit) (hu : u.Ok) (huf : u.Fit) (A : Option Addr) (c : Nat) (B : Option Addr) (d : Nat) (D : Option Addr) (e0 : Nat) (l : List UInt8) (w : World)
    (hs : Sl w A (c * 5) (t.cavs.flatMap cavV)) (hp : Sl w B (d * 5) (u.cavs.flatMap cavV)) (hq : Sl w D e0 (byts l))
    (g1 : ¬ 10000 < capT t) (g2 : ¬ 10000 < capT u) (g3 : ¬ 10000 < l.length) (hcan : checkT t = false) (hO : (decT l).isSome = true) :
    Calls Try.prog 3 #[.agg (tokV t A c).toArray, .agg (tokV u B d).toArray, .slice D l.length e0] w fun e w' => e = .returned (.bool true) ∧ Below w.heap.size w w' := by
  obtain ⟨V, hV⟩ : ∃ V, V = tokV t A c := ⟨_, rfl⟩
  obtain ⟨U, hU⟩ : ∃ U, U = tokV u B d := ⟨_, rfl⟩
  have hVl : V.length = 36 := by rw [hV]; exact length_tokV ht A c
  have hUl : U.length = 36 := by rw [hU]; exact length_tokV hu B d
  have hzV := Lib.hid (show (Try.prog.info? 27).map (·.size) = some V.length by rw [size_tok, hVl])
  have hzVa := Lib.hid (show (Try.prog.info? 27).map (·.size) = some V.toArray.size by rw [size_tok, List.size_toArray, hVl])
  have hzU := Lib.hid (show (Try.prog.info? 27).map (·.size) = some U.length by rw [size_tok, hUl])
  have hgt := Lib.hid (show ∀ w', Sl w' A (c * 5) (t.cavs.flatMap cavV) → Calls Try.prog 6 #[.agg V.toArray] w' fun e w'' => e = .returned (.int .i64 (if 10000 < capT t then 1 else 0)) ∧ Below w'.heap.size w' w'' by rw [hV]; exact fun w' h => rgreatT_any t htf A c w' h)
  have hgu := Lib.hid (show ∀ w', Sl w' B (d * 5) (u.cavs.flatMap cavV) → Calls Try.prog 6 #[.agg U.toArray] w' fun e w'' => e = .returned (.int .i64 (if 10000 < capT u then 1 else 0)) ∧ Below w'.heap.size w' w'' by rw [hU]; exact fun w' h => rgreatT_any u huf B d w' h)
  obtain ⟨r0, r1, hb0, _⟩ := two_rows (w := w) (A := V) (B := U) (tA := 27) (tB := 27) rfl
  have tok1 : True := trivial
  have tok2 : True := trivial
  have hSM := Lib.hid (fun w' h1 h2 => psame_any t u ht hu A c B d w' h1 h2 htf.many)
  have hRS := Lib.hid (fun w' h1 h2 => rsame_any t u ht hu A c B d w' h1 h2 htf.many)
  have hCL := Lib.hid (fun w' h1 => pclone_any t ht (cavs_bound t ht g1).1 A c w' h1)
  have hST := Lib.hid (show ∀ A2 c2 w', Sl w' A2 (c2 * 5) (t.cavs.flatMap cavV) → Sl w' A (c * 5) (t.cavs.flatMap cavV) → Calls Try.prog 17 #[.agg (tokV t A2 c2).toArray, .agg V.toArray] w' fun e w'' => e = .returned (.bool true) ∧ Below w'.heap.size w' w'' from fun A2 c2 w' h1 h2 => by
    have := psame_any t t ht ht A2 c2 A c w' h1 h2 htf.many
    rw [decide_eq_true rfl, ← hV] at this; exact this)
  rw [← hV, ← hU] at hSM hRS
  generalize decide (t = u) = bq at hSM hRS
  rw [← hV] at hCL
  rw [← hV, ← hU]
  clear hVl hUl
  rw [if_neg g1] at hgt
  rw [if_neg g2] at hgu
  have g3' : (l.length : Int) ≤ 10000 := by omega
  have htm : t.cavs.length ≤ 1000000 := by have := capT_len t.cavs; unfold capT at g1; omega
  obtain ⟨X, hX⟩ : ∃ X, X = (decT l).getD zeroK := ⟨_, rfl⟩
  have hXc : X.Ok ∧ X.cavs.length ≤ 64 := by rw [hX]; exact decT_okc l
  have hXok := hXc.1
  have hdec := Lib.hid (show ∀ w', Sl w' D e0 (byts l) → Calls Try.prog 11 #[.slice D l.length e0] w' fun e w'' => ∃ B d, e = .returned (.tuple #[.agg (tokV X B d).toArray, .int .i64 0]) ∧ Sl w'' B (d * 5) (X.cavs.flatMap cavV) ∧ Below w'.heap.size w' w'' by
    rw [hX]
    intro w' h
    have := pdec_any D l.length e0 l w' h rfl (by omega)
    rw [hO] at this; exact this)
  have hrdec := Lib.hid (show ∀ w', Sl w' D e0 (byts l) → Calls Try.prog 12 #[.slice D l.length e0] w' fun e w'' => ∃ B d, e = .returned (.tuple #[.agg (tokV X B d).toArray, .bool true]) ∧ Sl w'' B (d * 5) (X.cavs.flatMap cavV) ∧ Below w'.heap.size w' w'' by
    rw [hX, ← hO]; exact fun w' h => rdec_any D l.length e0 l w' h rfl (by omega))
  have hrs := Lib.hid (show ∀ B1 d1 B2 d2 w', Sl w' B1 (d1 * 5) (X.cavs.flatMap cavV) → Sl w' B2 (d2 * 5) (X.cavs.flatMap cavV) → Calls Try.prog 13 #[.agg (tokV X B1 d1).toArray, .agg (tokV X B2 d2).toArray] w' fun e w'' => e = .returned (.bool true) ∧ Below w'.heap.size w' w'' from fun B1 d1 B2 d2 w' h1 h2 => by
    have := rsame_any X X hXok hXok B1 d1 B2 d2 w' h1 h2 (by omega)
    rw [decide_eq_true rfl] at this; exact this)
  have hg2 := Lib.hid (show V[2]? = some (.slice A t.cavs.length c) by rw [hV]; exact (tokV_get t A c).2.2.1)
  clear hX hO hXc
  have HERR := Lib.hid (show errT t = 1 by unfold errT; rw [hcan]; rfl)
  obtain ⟨E, hE⟩ : ∃ E : List UInt8, E = [] := ⟨_, rfl⟩
  have HENC := Lib.hid (show encT t = E by rw [hE]; unfold encT; rw [hcan]; rfl)
  have hEl : E.length = 0 := by rw [hE]; rfl
  clear hE
  have hchk := Lib.hid (show ∀ w', Sl w' A (c * 5) (t.cavs.flatMap cavV) → Calls Try.prog 7 #[.agg V.toArray] w' fun e w'' => e = .returned (.bool false) ∧ Below w'.heap.size w' w'' from fun w' h => by have := rcheck_any t A c w' h; rw [← hV, hcan] at this; exact this)
  have hpc := Lib.hid (show ∀ w', Sl w' A (c * 5) (t.cavs.flatMap cavV) → Calls Try.prog 9 #[.agg V.toArray] w' fun e w'' => e = .returned (.int .i64 1) ∧ Below w'.heap.size w' w'' from fun w' h => by have := pcheck_any t ht htf A c w' h; rw [← hV, HERR.out] at this; exact this)
  have henc := Lib.hid (show ∀ w', Sl w' A (c * 5) (t.cavs.flatMap cavV) → Calls Try.prog 8 #[.agg V.toArray] w' fun e w'' => ∃ B d, e = .returned (.tuple #[.slice B E.length d, .int .i64 1]) ∧ Sl w'' B d (byts E) ∧ Below w'.heap.size w' w'' from fun w' h => by have := penc_any t ht htf A c w' h; rw [← hV, HERR.out, HENC.out] at this; exact this)
  have HCV := Lib.hid (cavs_bound t ht g1)
  clear hcan hV hU ht htf hu huf g1 g2 g3
  go_enter Try.func3, Try.ntmps3
  go_wp2_with (first
      | (go_at_call 5; refine (palive_any _).mono ?_; rintro e w3 ⟨rfl, hb3⟩; have r0 := r0.later hb3 r0.lt; have r1 := r1.later hb3 r1.lt; have hbw3 := hb0.trans (hb3.mono hb0.size); have hs3 := hs.later (Nat.le_refl _) hbw3; have R0 := Lib.hid (show w3.heap[w.heap.size]? = some (.cells V.toArray 27 (0, 0)) from r0); clear hb3 hb0)
      | (with_reducible refine wpList_load_row rfl 27 (.tmp 3) rfl w.heap.size rfl 27 V.toArray (0, 0) _ R0.out Try.underlying27 rfl hzVa.out ?_)
      | (go_at_call 6; have _t := tok1; refine (hgt.out _ hs3).mono ?_; rintro e w4 ⟨rfl, hb4⟩; have r0 := r0.later hb4 r0.lt; have r1 := r1.later hb4 r1.lt; have hbw4 := hbw3.trans (hb4.mono hbw3.size); have hp4 := hp.later (Nat.le_refl _) hbw4; have R0 := Lib.hid (show w4.heap[w.heap.size]? = some (.cells V.toArray 27 (0, 0)) from r0); have hr1 := row_range r1; clear hb4 tok1 hs3)
      | (refine wpList_step fun K hK => ?_; refine step_load_mid (some 22) rfl (by rfl) 27 (.tmp 4) rfl (w.heap.size + 1) 0 rfl U _ hr1 Try.underlying27 rfl hzU.out ?_; refine hK _ _ ?_; clear hK)
      | (go_at_call 6; have _t := tok2; refine (hgu.out _ hp4).mono ?_; rintro e w5 ⟨rfl, hb5⟩; have r0 := r0.later hb5 r0.lt; have r1 := r1.later hb5 r1.lt; have hbw5 := hbw4.trans (hb5.mono hbw4.size); have hs5 := hs.later (Nat.le_refl _) hbw5; have R0 := Lib.hid (show w5.heap[w.heap.size]? = some (.cells V.toArray 27 (0, 0)) from r0); clear hb5 tok2 hp4 hr1)
      | (go_at_call 7; refine (hchk.out _ hs5).mono ?_; rintro e w6 ⟨rfl, hb6⟩; have r0 := r0.later hb6 r0.lt; have r1 := r1.later hb6 r1.lt; have hbw6 := hbw5.trans (hb6.mono hbw5.size); have hs6 := hs.later (Nat.le_refl _) hbw6; have R0 := Lib.hid (show w6.heap[w.heap.size]? = some (.cells V.toArray 27 (0, 0)) from r0); clear hb6 hs5)
      | (go_at_call 8; refine (henc.out _ hs6).mono ?_; rintro e w7 ⟨B7, d7, rfl, hsl7, hb7⟩; have r0 := r0.later hb7 r0.lt; have r1 := r1.later hb7 r1.lt; have hbw7 := hbw6.trans (hb7.mono hbw6.size); have hs7 := hs.later (Nat.le_refl _) hbw7; clear hb7 hs6))
  refine wp_region_noPanic ?_
  refine wp_region_held_drew (S := fun w' => Below w7.heap.size w7 w') (by kernel_rfl) ((Below.refl _ _).drew) (fun hHeld => ?_)
  have hB := hHeld
  refine rtake 0 _ (some 38) _ rfl rfl (by kernel_rfl) (by kernel_rfl) (by kernel_rfl) (fun _ _ _ h => h) (by rfl) hHeld (by intro w hS; exact run_load_op 27 (.tmp 3) rfl _ 0 rfl V _ (row_range (r0.later hS r0.lt)) Try.underlying27 rfl hzV.out) ?_
  try (first | (rw [put_some]; dsimp only [List.set]) | rw [put_none])
  refine rtake 3 _ (some 41) _ rfl rfl (by kernel_rfl) (by kernel_rfl) (by kernel_rfl) (fun _ _ _ h => h) (by rfl) hHeld (by intro w hS; go_simp; try with_reducible rfl) ?_
  try (first | (rw [put_some]; dsimp only [List.set]) | rw [put_none])
  refine wpAnyH_ready (rs := [1]) (by kernel_rfl) (by simp) (AllReadyH.cons (o := _) rfl (fun K hK => ?_) AllReadyH.nil)
  go_simp
  refine (hpc.out _ (hs7.later (Nat.le_refl _) hB)).mono ?_; rintro e ww71 ⟨rfl, hqw71⟩
  try go_wp2_with fail
  refine hK.out _ _ (hHeld.trans (hqw71.mono hHeld.size)) (fun hHeld' => ?_)
  clear hK K
  try (first | (rw [put_some]; dsimp only [List.set]) | rw [put_none])
  have hB := below_step hB hqw71
  have hB1 : Below ww71.heap.size ww71 ww71 := Below.refl _ _
  refine wpAnyH_narrow (S' := fun w' => Below ww71.heap.size ww71 w') (fun _ h => (hHeld.trans (hqw71.mono hHeld.size)).trans (h.mono (hHeld.trans (hqw71.mono hHeld.size)).size)) _ _ _ _ ?_
  clear hHeld
  have hHeld : Below ww71.heap.size ww71 ww71 := Below.refl _ _
  refine rtake 2 _ (some 40) _ rfl rfl (by kernel_rfl) (by kernel_rfl) (by kernel_rfl) (fun _ _ _ h => h) (by rfl) hHeld (by intro w hS; go_simp; try with_reducible rfl) ?_
  try (first | (rw [put_some]; dsimp only [List.set]) | rw [put_none])
  refine rtake 4 _ (some 42) _ rfl rfl (by kernel_rfl) (by kernel_rfl) (by kernel_rfl) (fun _ _ _ h => h) (by rfl) hHeld (by intro w hS; go_simp; try with_reducible rfl) ?_
  try (first | (rw [put_some]; dsimp only [List.set]) | rw [put_none])
  refine rtake 5 _ (some 43) _ rfl rfl (by kernel_rfl) (by kernel_rfl) (by kernel_rfl) (fun _ _ _ h => h) (by rfl) hHeld (by intro w hS; go_simp; try with_reducible rfl) ?_
  try (first | (rw [put_some]; dsimp only [List.set]) | rw [put_none])
  refine rtake 6 _ (some 44) _ rfl rfl (by kernel_rfl) (by kernel_rfl) (by kernel_rfl) (fun _ _ _ h => h) (by rfl) hHeld (by intro w hS; exact run_load_op 27 (.tmp 3) rfl _ 0 rfl V _ (row_range ((r0.later hB r0.lt).later hS (r0.later hB r0.lt).lt)) Try.underlying27 rfl hzV.out) ?_
  try (first | (rw [put_some]; dsimp only [List.set]) | rw [put_none])
  refine rtake 8 _ (some 46) _ rfl rfl (by kernel_rfl) (by kernel_rfl) (by kernel_rfl) (fun _ _ _ h => h) (by rfl) hHeld (by intro w hS; go_simp; try with_reducible rfl) ?_
  try (first | (rw [put_some]; dsimp only [List.set]) | rw [put_none])
  refine wpAnyH_ready (rs := [7]) (by kernel_rfl) (by simp) (AllReadyH.cons (o := _) rfl (fun K hK => ?_) AllReadyH.nil)
  go_simp
  refine (hpc.out _ (hs7.later (Nat.le_refl _) hB)).mono ?_; rintro e ww77 ⟨rfl, hqw77⟩
  try go_wp2_with fail
  refine hK.out _ _ (hHeld.trans (hqw77.mono hHeld.size)) (fun hHeld' => ?_)
  clear hK K
  try (first | (rw [put_some]; dsimp only [List.set]) | rw [put_none])
  have hB := below_step hB hqw77
  have hB1 := below_step hB1 hqw77
  have hB7 : Below ww77.heap.size ww77 ww77 := Below.refl _ _
  refine wpAnyH_narrow (S' := fun w' => Below ww77.heap.size ww77 w') (fun _ h => (hHeld.trans (hqw77.mono hHeld.size)).trans (h.mono (hHeld.trans (hqw77.mono hHeld.size)).size)) _ _ _ _ ?_
  clear hHeld
  have hHeld : Below ww77.heap.size ww77 ww77 := Below.refl _ _
  refine rtake 9 _ (some 47) _ rfl rfl (by kernel_rfl) (by kernel_rfl) (by kernel_rfl) (fun _ _ _ h => h) (by rfl) hHeld (by intro w hS; go_simp; try with_reducible rfl) ?_
  try (first | (rw [put_some]; dsimp only [List.set]) | rw [put_none])
  refine rtake 10 _ (some 48) _ rfl rfl (by kernel_rfl) (by kernel_rfl) (by kernel_rfl) (fun _ _ _ h => h) (by rfl) hHeld (by intro w hS; go_simp; try with_reducible rfl) ?_
  try (first | (rw [put_some]; dsimp only [List.set]) | rw [put_none])
  refine rtake 11 _ (some 49) _ rfl rfl (by kernel_rfl) (by kernel_rfl) (by kernel_rfl) (fun _ _ _ h => h) (by rfl) hHeld (by intro w hS; go_simp; try with_reducible rfl) ?_
  try (first | (rw [put_some]; dsimp only [List.set]) | rw [put_none])
  refine rtake 12 _ (some 50) _ rfl rfl (by kernel_rfl) (by kernel_rfl) (by kernel_rfl) (fun _ _ _ h => h) (by rfl) hHeld (by intro w hS; go_simp; try with_reducible rfl) ?_
  try (first | (rw [put_some]; dsimp only [List.set]) | rw [put_none])
  refine rtake 13 _ (some 51) _ rfl rfl (by kernel_rfl) (by kernel_rfl) (by kernel_rfl) (fun _ _ _ h => h) (by rfl) hHeld (by intro w hS; go_simp; try with_reducible rfl) ?_
  try (first | (rw [put_some]; dsimp only [List.set]) | rw [put_none])
  refine rtake 14 _ (some 52) _ rfl rfl (by kernel_rfl) (by kernel_rfl) (by kernel_rfl) (fun _ _ _ h => h) (by rfl) hHeld (by intro w hS; go_simp; try with_reducible rfl) ?_
  try (first | (rw [put_some]; dsimp only [List.set]) | rw [put_none])
  refine rtake 15 _ (some 53) _ rfl rfl (by kernel_rfl) (by kernel_rfl) (by kernel_rfl) (fun _ _ _ h => h) (by rfl) hHeld (by intro w hS; go_simp; try with_reducible rfl) ?_
  try (first | (rw [put_some]; dsimp only [List.set]) | rw [put_none])
  refine rtake 16 _ (some 54) _ rfl rfl (by kernel_rfl) (by kernel_rfl) (by kernel_rfl) (fun _ _ _ h => h) (by rfl) hHeld (by intro w hS; go_simp; try with_reducible rfl) ?_
  try (first | (rw [put_some]; dsimp only [List.set]) | rw [put_none])
  refine rtake 17 _ (some 55) _ rfl rfl (by kernel_rfl) (by kernel_rfl) (by kernel_rfl) (fun _ _ _ h => h) (by rfl) hHeld (by intro w hS; go_simp; try with_reducible rfl) ?_
  try (first | (rw [put_some]; dsimp only [List.set]) | rw [put_none])
  refine rtake 18 _ (some 56) _ rfl rfl (by kernel_rfl) (by kernel_rfl) (by kernel_rfl) (fun _ _ _ h => h) (by rfl) hHeld (by intro w hS; go_simp; try with_reducible rfl) ?_
  try (first | (rw [put_some]; dsimp only [List.set]) | rw [put_none])
  refine rtake 19 _ (some 57) _ rfl rfl (by kernel_rfl) (by kernel_rfl) (by kernel_rfl) (fun _ _ _ h => h) (by rfl) hHeld (by intro w hS; go_simp; try with_reducible rfl) ?_
  try (first | (rw [put_some]; dsimp only [List.set]) | rw [put_none])
  refine rtake 20 _ (some 58) _ rfl rfl (by kernel_rfl) (by kernel_rfl) (by kernel_rfl) (fun _ _ _ h => h) (by rfl) hHeld (by intro w hS; go_simp; try with_reducible rfl) ?_
  try (first | (rw [put_some]; dsimp only [List.set]) | rw [put_none])
  refine rtake 21 _ (some 59) _ rfl rfl (by kernel_rfl) (by kernel_rfl) (by kernel_rfl) (fun _ _ _ h => h) (by rfl) hHeld (by intro w hS; go_simp; try with_reducible rfl) ?_
  try (first | (rw [put_some]; dsimp only [List.set]) | rw [put_none])
  refine rtake 22 _ (some 60) _ rfl rfl (by kernel_rfl) (by kernel_rfl) (by kernel_rfl) (fun _ _ _ h => h) (by rfl) hHeld (by intro w hS; go_simp; try with_reducible rfl) ?_
  try (first | (rw [put_some]; dsimp only [List.set]) | rw [put_none])
  refine rtake 23 _ (some 61) _ rfl rfl (by kernel_rfl) (by kernel_rfl) (by kernel_rfl) (fun _ _ _ h => h) (by rfl) hHeld (by intro w hS; go_simp; try with_reducible rfl) ?_
  try (first | (rw [put_some]; dsimp only [List.set]) | rw [put_none])
  refine rtake 24 _ (some 62) _ rfl rfl (by kernel_rfl) (by kernel_rfl) (by kernel_rfl) (fun _ _ _ h => h) (by rfl) hHeld (by intro w hS; go_simp; try with_reducible rfl) ?_
  try (first | (rw [put_some]; dsimp only [List.set]) | rw [put_none])
  refine rtake 25 _ (some 63) _ rfl rfl (by kernel_rfl) (by kernel_rfl) (by kernel_rfl) (fun _ _ _ h => h) (by rfl) hHeld (by intro w hS; go_simp; try with_reducible rfl) ?_
  try (first | (rw [put_some]; dsimp only [List.set]) | rw [put_none])
  refine rtake 26 _ (some 64) _ rfl rfl (by kernel_rfl) (by kernel_rfl) (by kernel_rfl) (fun _ _ _ h => h) (by rfl) hHeld (by intro w hS; go_simp; try with_reducible rfl) ?_
  try (first | (rw [put_some]; dsimp only [List.set]) | rw [put_none])
  refine rskip 27 _ (some 65) rfl rfl (by kernel_rfl) (by kernel_rfl) (by kernel_rfl) (fun _ _ _ h => h) (by rfl) hHeld ?_
  try (first | (rw [put_some]; dsimp only [List.set]) | rw [put_none])
  refine rskip 28 _ (some 66) rfl rfl (by kernel_rfl) (by kernel_rfl) (by kernel_rfl) (fun _ _ _ h => h) (by rfl) hHeld ?_
  try (first | (rw [put_some]; dsimp only [List.set]) | rw [put_none])
  refine rskip 29 _ (some 67) rfl rfl (by kernel_rfl) (by kernel_rfl) (by kernel_rfl) (fun _ _ _ h => h) (by rfl) hHeld ?_
  try (first | (rw [put_some]; dsimp only [List.set]) | rw [put_none])
  refine rskip 30 _ (some 68) rfl rfl (by kernel_rfl) (by kernel_rfl) (by kernel_rfl) (fun _ _ _ h => h) (by rfl) hHeld ?_
  try (first | (rw [put_some]; dsimp only [List.set]) | rw [put_none])
  refine rskip 31 _ (some 69) rfl rfl (by kernel_rfl) (by kernel_rfl) (by kernel_rfl) (fun _ _ _ h => h) (by rfl) hHeld ?_
  try (first | (rw [put_some]; dsimp only [List.set]) | rw [put_none])
  refine rskip 32 _ (some 70) rfl rfl (by kernel_rfl) (by kernel_rfl) (by kernel_rfl) (fun _ _ _ h => h) (by rfl) hHeld ?_
  try (first | (rw [put_some]; dsimp only [List.set]) | rw [put_none])
  refine rtake 33 _ (some 71) _ rfl rfl (by kernel_rfl) (by kernel_rfl) (by kernel_rfl) (fun _ _ _ h => h) (by rfl) hHeld (by intro w hS; go_simp; try with_reducible rfl) ?_
  try (first | (rw [put_some]; dsimp only [List.set]) | rw [put_none])
  refine rtake 34 _ (some 72) _ rfl rfl (by kernel_rfl) (by kernel_rfl) (by kernel_rfl) (fun _ _ _ h => h) (by rfl) hHeld (by intro w hS; go_simp; try with_reducible rfl) ?_
  try (first | (rw [put_some]; dsimp only [List.set]) | rw [put_none])
  refine wpAnyH_done (by kernel_rfl) ?_ _
  refine NoPanic.normal ?_
  have r0 := r0.later hB r0.lt
  have r1 := r1.later hB r1.lt
  have hbw9 := hbw7.trans (hB.mono hbw7.size)
  have hq9 := hq.later (Nat.le_refl _) hbw9
  clear hHeld hB hsl7
  go_wp2_with (first
      | (go_at_call 11; refine (hdec.out _ hq9).mono ?_; rintro e w10 ⟨B10, d10, rfl, hsl10, hb10⟩; have r0 := r0.later hb10 r0.lt; have r1 := r1.later hb10 r1.lt; have hbw10 := hbw9.trans (hb10.mono hbw9.size); have hlV10 := length_tokV hXok B10 d10; have honeV10 := Lib.hid (all_one (tokV_one X B10 d10));  have HS10 := Lib.hid (hrs.out B10 d10); obtain ⟨V10, hV10q⟩ : ∃ V, V = tokV X B10 d10 := ⟨_, rfl⟩; rw [← hV10q] at hlV10 honeV10 HS10 ⊢; have hzV10 := Lib.hid (show (Try.prog.info? 27).map (·.size) = some V10.length by rw [size_tok, hlV10]); have hzV10a := Lib.hid (show (Try.prog.info? 27).map (·.size) = some V10.toArray.size by rw [size_tok, List.size_toArray, hlV10]); have h36V10 := Lib.hid (show 36 = V10.toArray.size by rw [List.size_toArray, hlV10]); clear hlV10 hV10q)
      | (with_reducible refine wpList_store_row rfl 27 (.tmp 10) (.tmp 76) rfl w10.heap.size V10.toArray rfl rfl 27 _ (heap_alloc_new w10 _) hzV10a.out (Eq.trans (by kernel_rfl) h36V10.out) honeV10.out ?_; refine Hid.out ?_))
  refine Lib.hid ?_
  generalize hw11 : World.setRow _ _ _ = w11
  obtain ⟨r10, hb11⟩ := row_new_set (xs := V10) hw11
  have r0 := r0.later hb11 r0.lt
  have r1 := r1.later hb11 r1.lt
  have hbw11 := hbw10.trans (hb11.mono hbw10.size)
  have hq11 := hq.later (Nat.le_refl _) hbw11
  have hsl10 := hsl10.later (Nat.le_refl _) hb11
  clear hw11 hb11 hbw10
  generalize w10.heap.size = g10 at *
  go_wp2_with (first
      | (go_at_call 12; refine (hrdec.out _ hq11).mono ?_; rintro e w12 ⟨B12, d12, rfl, hsl12, hb12⟩; have r0 := r0.later hb12 r0.lt; have r1 := r1.later hb12 r1.lt; have hbw12 := hbw11.trans (hb12.mono hbw11.size); have hlV12 := length_tokV hXok B12 d12; have honeV12 := Lib.hid (all_one (tokV_one X B12 d12)); have r10 := r10.later hb12 r10.lt; have hsl10 := hsl10.later (Nat.le_refl _) hb12; have HS12 := Lib.hid (fun w1 => HS10.out B12 d12 w1); obtain ⟨V12, hV12q⟩ : ∃ V, V = tokV X B12 d12 := ⟨_, rfl⟩; rw [← hV12q] at hlV12 honeV12 HS12 ⊢; have hzV12 := Lib.hid (show (Try.prog.info? 27).map (·.size) = some V12.length by rw [size_tok, hlV12]); have hzV12a := Lib.hid (show (Try.prog.info? 27).map (·.size) = some V12.toArray.size by rw [size_tok, List.size_toArray, hlV12]); have h36V12 := Lib.hid (show 36 = V12.toArray.size by rw [List.size_toArray, hlV12]); clear hlV12 hV12q)
      | (with_reducible refine wpList_store_row rfl 27 (.tmp 12) (.tmp 81) rfl w12.heap.size V12.toArray rfl rfl 27 _ (heap_alloc_new w12 _) hzV12a.out (Eq.trans (by kernel_rfl) h36V12.out) honeV12.out ?_; refine Hid.out ?_))
  refine Lib.hid ?_
  generalize hw13 : World.setRow _ _ _ = w13
  obtain ⟨r12, hb13⟩ := row_new_set (xs := V12) hw13
  have r0 := r0.later hb13 r0.lt
  have r1 := r1.later hb13 r1.lt
  have r10 := r10.later hb13 r10.lt
  have hbw13 := hbw12.trans (hb13.mono hbw12.size)
  have hsl10 := hsl10.later (Nat.le_refl _) hb13
  have hsl12 := hsl12.later (Nat.le_refl _) hb13
  clear hw13 hb13 hbw12
  generalize w12.heap.size = g12 at *
  have hr10 := row_range r10
  have hr12 := row_range r12
  have c2 : ∀ w', Below w13.heap.size w13 w' → w'.cell? ⟨w.heap.size, 2, none⟩ = some (.slice A t.cavs.length c) := fun w' h => by rw [(r0.later h r0.lt).cell]; exact hg2.out
  go_wp2_with (first
      | (refine wpList_step fun K hK => ?_; refine step_load_mid (some 96) rfl (by rfl) 27 (.tmp 10) rfl g10 0 rfl V10 _ hr10 Try.underlying27 rfl hzV10.out ?_; refine hK _ _ ?_; clear hK)
      | (refine wpList_step fun K hK => ?_; refine step_load_mid (some 97) rfl (by rfl) 27 (.tmp 12) rfl g12 0 rfl V12 _ hr12 Try.underlying27 rfl hzV12.out ?_; refine hK _ _ ?_; clear hK)
      | (go_at_call 13; refine (HS12.out _ hsl10 hsl12).mono ?_; rintro e w14 ⟨rfl, hb14⟩; have r0 := r0.later hb14 r0.lt; have r1 := r1.later hb14 r1.lt; have hbw14 := hbw13.trans (hb14.mono hbw13.size); have c2 := c2 _ hb14; clear hb14))
  clear hr10 hr12 r10 r12 hsl10 hsl12 HS12 hq hq11 hdec hrdec hrs HS10 hchk hpc henc hgt hgu
  go_loopw [108] (fun i wr => ∃ k : Nat, k ≤ t.cavs.length ∧ i = .int .i64 k ∧ Row wr w.heap.size 27 V ∧ Row wr (w.heap.size + 1) 27 U ∧ Below w.heap.size w wr) (fun i _ => t.cavs.length - (intOf i).toNat)
  case atStart => exact ⟨0, by omega, rfl, r0, r1, hbw14⟩
  case round =>
    clear r0 r1 hbw14 c2
    obtain ⟨k, hk, rfl, r0, r1, hb⟩ := hrel
    have hsr := hs.later (Nat.le_refl _) hb
    have hpr := hp.later (Nat.le_refl _) hb
    have hcl : (t.cavs.length : Int) ≤ 1000000 := by omega
    clear hs hp
    by_cases hlt : k < t.cavs.length
    · obtain ⟨cv, hcq⟩ : ∃ cv, t.cavs[k]? = some cv := ⟨_, List.getElem?_eq_getElem hlt⟩
      obtain ⟨hp1, hp2, hp3⟩ := HCV.out.2 cv (List.mem_of_getElem? hcq)
      obtain ⟨b, o, rfl, hb0, hr0⟩ := hsr.rd.get (i := 0) (by rw [length_cavsV]; omega)
      clear hb0 hr0
      have hix := index_cav (some ⟨b, o, none⟩) b o t.cavs.length c k rfl hlt
      have hrg := hsr.thing (k := 5) (fun _ _ => rfl) k cv hcq
      have hzf := Lib.hid (show (Try.prog.info? 43).map (·.size) = some (cavV cv).length from size_cav)
      have hzf2 := Lib.hid (show (Try.prog.info? 43).map (·.size) = some (cavV cv).toArray.size from size_cav)
      have hof := Lib.hid (show (cavV cv).toArray.all (·.oneCell') = true from all_one (fun v hv => cavV_one [cv] v (by simpa using hv)))
      obtain ⟨J, hJ⟩ : ∃ J, J = joinL (cavF cv) := ⟨_, rfl⟩
      obtain ⟨F, hF⟩ : ∃ F, F = cavF cv := ⟨_, rfl⟩
      have hpv := Lib.hid (fun w1 => pcav_any cv hp1 hp2 w1)
      have hrv := Lib.hid (fun w1 => rcav_any cv hp1 w1)
      have hjn := Lib.hid (show ∀ A6 c6 w1, Sl w1 A6 (c6 * 2) (F.flatMap fdV) → Calls Try.prog 15 #[.slice A6 F.length c6] w1 (GaveBytes J w1) by rw [hJ, hF]; exact fun A6 c6 w1 h => rjoin_any A6 (cavF cv).length c6 (cavF cv) w1 h rfl hp3)
      obtain ⟨V2, hV2q⟩ : ∃ V, V = cavV cv := ⟨_, rfl⟩
      rw [← hV2q] at hrg hzf hzf2 hof hpv hrv
      rw [← hJ] at hpv
      rw [← hF] at hrv
      have hV2 := Lib.hid (show (5 : Nat) = V2.toArray.size by rw [hV2q]; rfl)
      clear hV2q hJ hF hp1 hp2 hp3 hcq
      go_wp2_with (first
          | (with_reducible refine wpList_load_mid rfl 43 (.tmp 110) rfl b (o + k * 5) rfl V2 _ hrg Try.underlying43 rfl hzf.out ?_)
          | (with_reducible refine wpList_store_row rfl 43 (.tmp 15) (.tmp 111) rfl wr.heap.size V2.toArray rfl rfl 43 _ (heap_alloc_new wr _) hzf2.out (Eq.trans (by kernel_rfl) hV2.out) hof.out ?_; refine Hid.out ?_))
      refine Lib.hid ?_
      generalize hw15 : World.setRow _ _ _ = w15
      obtain ⟨r15, hb15⟩ := row_new_set (xs := V2) hw15
      have r0 := r0.later hb15 r0.lt
      have r1 := r1.later hb15 r1.lt
      have hb15w := hb.trans (hb15.mono hb.size)
      clear hw15 hb15 hb hrg hix hsr hpr
      generalize wr.heap.size = g15 at *
      go_wp2_with fail
      refine wp_region_noPanic ?_
      refine wp_region_held_drew (S := fun w' => Below w15.heap.size w15 w') (by kernel_rfl) ((Below.refl _ _).drew) (fun hHeld => ?_)
      have hB := hHeld
      refine rtake 0 _ (some 112) _ rfl rfl (by kernel_rfl) (by kernel_rfl) (by kernel_rfl) (fun _ _ _ h => h) (by rfl) hHeld (by intro w hS; exact run_load_op 43 (.tmp 15) rfl _ 0 rfl V2 _ (row_range (r15.later hS r15.lt)) Try.underlying43 rfl hzf.out) ?_
      try (first | (rw [put_some]; dsimp only [List.set]) | rw [put_none])
      refine rtake 3 _ (some 115) _ rfl rfl (by kernel_rfl) (by kernel_rfl) (by kernel_rfl) (fun _ _ _ h => h) (by rfl) hHeld (by intro w hS; exact run_load_op 43 (.tmp 15) rfl _ 0 rfl V2 _ (row_range (r15.later hS r15.lt)) Try.underlying43 rfl hzf.out) ?_
      try (first | (rw [put_some]; dsimp only [List.set]) | rw [put_none])
      refine wpAnyH_ready (rs := [1]) (by kernel_rfl) (by simp) (AllReadyH.cons (o := _) rfl (fun K hK => ?_) AllReadyH.nil)
      go_simp
      refine (hpv.out _).mono ?_; rintro e ww151 ⟨v1, rfl, hown1, hqw151⟩; obtain ⟨A1, c1, rfl, _, hsl1⟩ := Sl.of_own hown1
      try go_wp2_with fail
      refine hK.out _ _ (hHeld.trans (hqw151.mono hHeld.size)) (fun hHeld' => ?_)
      clear hK K
      try (first | (rw [put_some]; dsimp only [List.set]) | rw [put_none])
      have hB := below_step hB hqw151
      have hB1 : Below ww151.heap.size ww151 ww151 := Below.refl _ _
      refine wpAnyH_narrow (S' := fun w' => Below ww151.heap.size ww151 w') (fun _ h => (hHeld.trans (hqw151.mono hHeld.size)).trans (h.mono (hHeld.trans (hqw151.mono hHeld.size)).size)) _ _ _ _ ?_
      clear hHeld
      have hHeld : Below ww151.heap.size ww151 ww151 := Below.refl _ _
      have hcvP := conv_later hsl1 _ rfl
      refine rtake 2 _ (some 114) _ rfl rfl (by kernel_rfl) (by kernel_rfl) (by kernel_rfl) (fun _ _ _ h => h) (by rfl) hHeld (by intro w hS; go_simp; try with_reducible rfl) ?_
      try (first | (rw [put_some]; dsimp only [List.set]) | rw [put_none])
      refine wpAnyH_ready (rs := [4]) (by kernel_rfl) (by simp) (AllReadyH.cons (o := _) rfl (fun K hK => ?_) AllReadyH.nil)
      go_simp
      refine (hrv.out _).mono ?_; rintro e ww154 ⟨A4, c4, rfl, hsl4, hqw154⟩
      try go_wp2_with fail
      refine hK.out _ _ (hHeld.trans (hqw154.mono hHeld.size)) (fun hHeld' => ?_)
      clear hK K
      try (first | (rw [put_some]; dsimp only [List.set]) | rw [put_none])
      have hB := below_step hB hqw154
      have hB1 := below_step hB1 hqw154
      have hB4 : Below ww154.heap.size ww154 ww154 := Below.refl _ _
      refine wpAnyH_narrow (S' := fun w' => Below ww154.heap.size ww154 w') (fun _ h => (hHeld.trans (hqw154.mono hHeld.size)).trans (h.mono (hHeld.trans (hqw154.mono hHeld.size)).size)) _ _ _ _ ?_
      clear hHeld
      have hHeld : Below ww154.heap.size ww154 ww154 := Below.refl _ _
      refine wpAnyH_ready (rs := [5]) (by kernel_rfl) (by simp) (AllReadyH.cons (o := _) rfl (fun K hK => ?_) AllReadyH.nil)
      go_simp
      refine (hjn.out _ _ _ hsl4).mono ?_; rintro e ww155 ⟨v5, rfl, hown5, hqw155⟩; obtain ⟨A5, c5, rfl, _, hsl5⟩ := Sl.of_own hown5
      try go_wp2_with fail
      refine hK.out _ _ (hHeld.trans (hqw155.mono hHeld.size)) (fun hHeld' => ?_)
      clear hK K
      try (first | (rw [put_some]; dsimp only [List.set]) | rw [put_none])
      have hB := below_step hB hqw155
      have hB1 := below_step hB1 hqw155
      have hB4 := below_step hB4 hqw155
      have hB5 : Below ww155.heap.size ww155 ww155 := Below.refl _ _
      refine wpAnyH_narrow (S' := fun w' => Below ww155.heap.size ww155 w') (fun _ h => (hHeld.trans (hqw155.mono hHeld.size)).trans (h.mono (hHeld.trans (hqw155.mono hHeld.size)).size)) _ _ _ _ ?_
      clear hHeld
      have hHeld : Below ww155.heap.size ww155 ww155 := Below.refl _ _
      have hcvJ := conv_later hsl5 _ rfl
      refine rtake 6 _ (some 118) _ rfl rfl (by kernel_rfl) (by kernel_rfl) (by kernel_rfl) (fun _ _ _ h => h) (by rfl) hHeld (by intro w hS; go_simp; try with_reducible rfl) ?_
      try (first | (rw [put_some]; dsimp only [List.set]) | rw [put_none])
      refine rtake 7 _ (some 119) _ rfl rfl (by kernel_rfl) (by kernel_rfl) (by kernel_rfl) (fun _ _ _ h => h) (by rfl) hHeld (by intro w hS; go_simp; try with_reducible rfl) ?_
      try (first | (rw [put_some]; dsimp only [List.set]) | rw [put_none])
      refine wpAnyH_done (by kernel_rfl) ?_ _
      refine NoPanic.normal ?_
      have r0 := r0.later hB r0.lt
      have r1 := r1.later hB r1.lt
      have hbf := hb15w.trans (hB.mono hb15w.size)
      clear hcvP hcvJ hB hHeld r15
      go_wp2_with fail
      go_roundw
      case rel => exact ⟨k + 1, by omega, by go_num, r0, r1, hbf⟩
      case measure => simp [intOf]; omega
    · have hkk : ¬ (k : Int) < (t.cavs.length : Int) := by omega
      clear hlt hk
      go_wp2_with fail
      refine wp_region_noPanic ?_
      refine wp_region_held_drew (S := fun w' => Below wr.heap.size wr w') (by kernel_rfl) ((Below.refl _ _).drew) (fun hHeld => ?_)
      have hB := hHeld
      refine rtake 0 _ (some 121) _ rfl rfl (by kernel_rfl) (by kernel_rfl) (by kernel_rfl) (fun _ _ _ h => h) (by rfl) hHeld (by intro w hS; exact run_load_op 27 (.tmp 3) rfl _ 0 rfl V _ (row_range (r0.later hS r0.lt)) Try.underlying27 rfl hzV.out) ?_
      try (first | (rw [put_some]; dsimp only [List.set]) | rw [put_none])
      refine rtake 1 _ (some 122) _ rfl rfl (by kernel_rfl) (by kernel_rfl) (by kernel_rfl) (fun _ _ _ h => h) (by rfl) hHeld (by intro w hS; exact run_load_op 27 (.tmp 4) rfl _ 0 rfl U _ (row_range (r1.later hS r1.lt)) Try.underlying27 rfl hzU.out) ?_
      try (first | (rw [put_some]; dsimp only [List.set]) | rw [put_none])
      refine rtake 3 _ (some 124) _ rfl rfl (by kernel_rfl) (by kernel_rfl) (by kernel_rfl) (fun _ _ _ h => h) (by rfl) hHeld (by intro w hS; exact run_load_op 27 (.tmp 3) rfl _ 0 rfl V _ (row_range (r0.later hS r0.lt)) Try.underlying27 rfl hzV.out) ?_
      try (first | (rw [put_some]; dsimp only [List.set]) | rw [put_none])
      refine rtake 4 _ (some 125) _ rfl rfl (by kernel_rfl) (by kernel_rfl) (by kernel_rfl) (fun _ _ _ h => h) (by rfl) hHeld (by intro w hS; exact run_load_op 27 (.tmp 4) rfl _ 0 rfl U _ (row_range (r1.later hS r1.lt)) Try.underlying27 rfl hzU.out) ?_
      try (first | (rw [put_some]; dsimp only [List.set]) | rw [put_none])
      refine wpAnyH_ready (rs := [2]) (by kernel_rfl) (by simp) (AllReadyH.cons (o := _) rfl (fun K hK => ?_) AllReadyH.nil)
      go_simp
      refine (hSM.out _ (hsr.later (Nat.le_refl _) hB) (hpr.later (Nat.le_refl _) hB)).mono ?_; rintro e wwr2 ⟨rfl, hqwr2⟩
      try go_wp2_with fail
      refine hK.out _ _ (hHeld.trans (hqwr2.mono hHeld.size)) (fun hHeld' => ?_)
      clear hK K
      try (first | (rw [put_some]; dsimp only [List.set]) | rw [put_none])
      have hB := below_step hB hqwr2
      have hB2 : Below wwr2.heap.size wwr2 wwr2 := Below.refl _ _
      refine wpAnyH_narrow (S' := fun w' => Below wwr2.heap.size wwr2 w') (fun _ h => (hHeld.trans (hqwr2.mono hHeld.size)).trans (h.mono (hHeld.trans (hqwr2.mono hHeld.size)).size)) _ _ _ _ ?_
      clear hHeld
      have hHeld : Below wwr2.heap.size wwr2 wwr2 := Below.refl _ _
      refine wpAnyH_ready (rs := [5]) (by kernel_rfl) (by simp) (AllReadyH.cons (o := _) rfl (fun K hK => ?_) AllReadyH.nil)
      go_simp
      refine (hRS.out _ (hsr.later (Nat.le_refl _) hB) (hpr.later (Nat.le_refl _) hB)).mono ?_; rintro e wwr5 ⟨rfl, hqwr5⟩
      try go_wp2_with fail
      refine hK.out _ _ (hHeld.trans (hqwr5.mono hHeld.size)) (fun hHeld' => ?_)
      clear hK K
      try (first | (rw [put_some]; dsimp only [List.set]) | rw [put_none])
      have hB := below_step hB hqwr5
      have hB2 := below_step hB2 hqwr5
      have hB5 : Below wwr5.heap.size wwr5 wwr5 := Below.refl _ _
      refine wpAnyH_narrow (S' := fun w' => Below wwr5.heap.size wwr5 w') (fun _ h => (hHeld.trans (hqwr5.mono hHeld.size)).trans (h.mono (hHeld.trans (hqwr5.mono hHeld.size)).size)) _ _ _ _ ?_
      clear hHeld
      have hHeld : Below wwr5.heap.size wwr5 wwr5 := Below.refl _ _
      refine rtake 6 _ (some 127) _ rfl rfl (by kernel_rfl) (by kernel_rfl) (by kernel_rfl) (fun _ _ _ h => h) (by rfl) hHeld (by intro w hS; go_simp; try with_reducible rfl) ?_
      try (first | (rw [put_some]; dsimp only [List.set]) | rw [put_none])
      refine rtake 7 _ (some 128) _ rfl rfl (by kernel_rfl) (by kernel_rfl) (by kernel_rfl) (fun _ _ _ h => h) (by rfl) hHeld (by intro w hS; go_simp; try with_reducible rfl) ?_
      try (first | (rw [put_some]; dsimp only [List.set]) | rw [put_none])
      refine rtake 8 _ (some 129) _ rfl rfl (by kernel_rfl) (by kernel_rfl) (by kernel_rfl) (fun _ _ _ h => h) (by rfl) hHeld (by intro w hS; exact run_load_op 27 (.tmp 3) rfl _ 0 rfl V _ (row_range ((r0.later hB r0.lt).later hS (r0.later hB r0.lt).lt)) Try.underlying27 rfl hzV.out) ?_
      try (first | (rw [put_some]; dsimp only [List.set]) | rw [put_none])
      refine rtake 10 _ (some 131) _ rfl rfl (by kernel_rfl) (by kernel_rfl) (by kernel_rfl) (fun _ _ _ h => h) (by rfl) hHeld (by intro w hS; exact run_load_op 27 (.tmp 3) rfl _ 0 rfl V _ (row_range ((r0.later hB r0.lt).later hS (r0.later hB r0.lt).lt)) Try.underlying27 rfl hzV.out) ?_
      try (first | (rw [put_some]; dsimp only [List.set]) | rw [put_none])
      refine wpAnyH_ready (rs := [9]) (by kernel_rfl) (by simp) (AllReadyH.cons (o := _) rfl (fun K hK => ?_) AllReadyH.nil)
      go_simp
      refine (hCL.out _ (hsr.later (Nat.le_refl _) hB)).mono ?_; rintro e wwr9 ⟨A9, c9, rfl, hsl9, hqwr9⟩
      try go_wp2_with fail
      refine hK.out _ _ (hHeld.trans (hqwr9.mono hHeld.size)) (fun hHeld' => ?_)
      clear hK K
      try (first | (rw [put_some]; dsimp only [List.set]) | rw [put_none])
      have hB := below_step hB hqwr9
      have hB2 := below_step hB2 hqwr9
      have hB5 := below_step hB5 hqwr9
      have hB9 : Below wwr9.heap.size wwr9 wwr9 := Below.refl _ _
      refine wpAnyH_narrow (S' := fun w' => Below wwr9.heap.size wwr9 w') (fun _ h => (hHeld.trans (hqwr9.mono hHeld.size)).trans (h.mono (hHeld.trans (hqwr9.mono hHeld.size)).size)) _ _ _ _ ?_
      clear hHeld
      have hHeld : Below wwr9.heap.size wwr9 wwr9 := Below.refl _ _
      refine wpAnyH_ready (rs := [11]) (by kernel_rfl) (by simp) (AllReadyH.cons (o := _) rfl (fun K hK => ?_) AllReadyH.nil)
      go_simp
      refine (hST.out _ _ _ (hsl9.later (Nat.le_refl _) hB9) (hsr.later (Nat.le_refl _) hB)).mono ?_; rintro e wwr11 ⟨rfl, hqwr11⟩
      try go_wp2_with fail
      refine hK.out _ _ (hHeld.trans (hqwr11.mono hHeld.size)) (fun hHeld' => ?_)
      clear hK K
      try (first | (rw [put_some]; dsimp only [List.set]) | rw [put_none])
      have hB := below_step hB hqwr11
      have hB2 := below_step hB2 hqwr11
      have hB5 := below_step hB5 hqwr11
      have hB9 := below_step hB9 hqwr11
      have hB11 : Below wwr11.heap.size wwr11 wwr11 := Below.refl _ _
      refine wpAnyH_narrow (S' := fun w' => Below wwr11.heap.size wwr11 w') (fun _ h => (hHeld.trans (hqwr11.mono hHeld.size)).trans (h.mono (hHeld.trans (hqwr11.mono hHeld.size)).size)) _ _ _ _ ?_
      clear hHeld
      have hHeld : Below wwr11.heap.size wwr11 wwr11 := Below.refl _ _
      refine rtake 12 _ (some 133) _ rfl rfl (by kernel_rfl) (by kernel_rfl) (by kernel_rfl) (fun _ _ _ h => h) (by rfl) hHeld (by intro w hS; go_simp; try with_reducible rfl) ?_
      try (first | (rw [put_some]; dsimp only [List.set]) | rw [put_none])
      refine rtake 13 _ (some 6) _ rfl rfl (by kernel_rfl) (by kernel_rfl) (by kernel_rfl) (fun _ _ _ h => h) (by rfl) hHeld (by intro w hS; go_simp; try with_reducible rfl) ?_
      try (first | (rw [put_some]; dsimp only [List.set]) | rw [put_none])
      refine wpAnyH_done (by kernel_rfl) ?_ _
      refine NoPanic.normal ?_
      have hbf := hb.trans (hB.mono hb.size)
      clear hB hHeld r0 r1
      go_wp2_with fail
      go_ret
      exact ⟨rfl, hbf⟩
end Go.Proofs.Ytjmkclhakamcgaa
