/- LAYER 10, PacketBack: the walk where the first token can be, and the second can't; the bytes are none's. -/
import Derived.Test.YtjmkclhakamcgaaTp1
namespace Go.Proofs.Ytjmkclhakamcgaa
open Go Go.RowKit

set_option maxRecDepth 100000 in
set_option maxHeartbeats 4000000 in
theorem pback_100 (t u : Tok) (ht : t.Ok) (htf : t.Fit) (hu : u.Ok) (huf : u.Fit) (A : Option Addr) (c : Nat) (B : Option Addr) (d : Nat) (D : Option Addr) (e0 : Nat) (l : List UInt8) (w : World)
    (hs : Sl w A (c * 5) (t.cavs.flatMap cavV)) (hp : Sl w B (d * 5) (u.cavs.flatMap cavV)) (hq : Sl w D e0 (byts l))
    (g1 : ¬ 10000 < capT t) (g2 : ¬ 10000 < capT u) (g3 : ¬ 10000 < l.length) (hct : checkT t = true) (hcu : checkT u = false) (hO : (decT l).isSome = false) :
    Calls Try.prog 4 #[.agg (tokV t A c).toArray, .agg (tokV u B d).toArray, .slice D l.length e0] w fun e w' => e = .returned (.bool true) ∧ Below w.heap.size w w' := by
  obtain ⟨V, hV⟩ : ∃ V, V = tokV t A c := ⟨_, rfl⟩
  obtain ⟨U, hU⟩ : ∃ U, U = tokV u B d := ⟨_, rfl⟩
  have hVl : V.length = 36 := by rw [hV]; exact length_tokV ht A c
  have hUl : U.length = 36 := by rw [hU]; exact length_tokV hu B d
  have hzV := Lib.hid (show (Try.prog.info? 27).map (·.size) = some V.length by rw [size_tok, hVl])
  have hzVa := Lib.hid (show (Try.prog.info? 27).map (·.size) = some V.toArray.size by rw [size_tok, List.size_toArray, hVl])
  have hzU := Lib.hid (show (Try.prog.info? 27).map (·.size) = some U.length by rw [size_tok, hUl])
  have hzUa := Lib.hid (show (Try.prog.info? 27).map (·.size) = some U.toArray.size by rw [size_tok, List.size_toArray, hUl])
  have hgt := Lib.hid (show ∀ w', Sl w' A (c * 5) (t.cavs.flatMap cavV) → Calls Try.prog 6 #[.agg V.toArray] w' fun e w'' => e = .returned (.int .i64 (if 10000 < capT t then 1 else 0)) ∧ Below w'.heap.size w' w'' by rw [hV]; exact fun w' h => rgreatT_any t htf A c w' h)
  have hgu := Lib.hid (show ∀ w', Sl w' B (d * 5) (u.cavs.flatMap cavV) → Calls Try.prog 6 #[.agg U.toArray] w' fun e w'' => e = .returned (.int .i64 (if 10000 < capT u then 1 else 0)) ∧ Below w'.heap.size w' w'' by rw [hU]; exact fun w' h => rgreatT_any u huf B d w' h)
  obtain ⟨r0, r1, hbw0, _⟩ := two_rows (w := w) (A := V) (B := U) (tA := 27) (tB := 27) rfl
  have tok1 : True := trivial
  have tok2 : True := trivial
  have tok3 : True := trivial
  have tok4 : True := trivial
  have tok5 : True := trivial
  have tok6 : True := trivial
  have tok7 : True := trivial
  rw [if_neg g1] at hgt
  rw [if_neg g2] at hgu
  have g3' : (l.length : Int) ≤ 10000 := by omega
  obtain ⟨X, hX⟩ : ∃ X, X = (decT l).getD zeroK := ⟨_, rfl⟩
  have hXc : X.Ok ∧ X.Fit ∧ X.cavs.length ≤ 64 ∧ checkT X = true ∧ X.cavs.length ≤ 9223372036854775807 := by rw [hX]; exact decT_fit l
  have hXok := hXc.1
  have htk := ht
  obtain ⟨E, hE⟩ : ∃ E, E = encT t := ⟨_, rfl⟩
  obtain ⟨F, hF⟩ : ∃ F, F = encT u := ⟨_, rfl⟩
  obtain ⟨e1, he1⟩ : ∃ e1, e1 = errT t := ⟨_, rfl⟩
  obtain ⟨e2, he2⟩ : ∃ e2, e2 = errT u := ⟨_, rfl⟩
  have hxt := Lib.hid (show ∀ w', Sl w' A (c * 5) (t.cavs.flatMap cavV) → Calls Try.prog 8 #[.agg V.toArray] w' fun e w'' => ∃ B d, e = .returned (.tuple #[.slice B E.length d, .int .i64 e1]) ∧ Sl w'' B d (byts E) ∧ Below w'.heap.size w' w'' by rw [hE, he1, hV]; exact fun w' h => penc_any t ht htf A c w' h)
  have hxu := Lib.hid (show ∀ w', Sl w' B (d * 5) (u.cavs.flatMap cavV) → Calls Try.prog 8 #[.agg U.toArray] w' fun e w'' => ∃ B d, e = .returned (.tuple #[.slice B F.length d, .int .i64 e2]) ∧ Sl w'' B d (byts F) ∧ Below w'.heap.size w' w'' by rw [hF, he2, hU]; exact fun w' h => penc_any u hu huf B d w' h)
  obtain rfl : e1 = 0 := by rw [he1]; exact if_pos hct
  have hEb : E = bytesT t := by rw [hE]; exact if_pos hct
  have hdb := Lib.hid (show ∀ B6 d6 w', Sl w' B6 d6 (byts E) → Calls Try.prog 11 #[.slice B6 E.length d6] w' fun e w'' => ∃ B d, e = .returned (.tuple #[.agg (tokV t B d).toArray, .int .i64 0]) ∧ Sl w'' B (d * 5) (t.cavs.flatMap cavV) ∧ Below w'.heap.size w' w'' from fun B6 d6 w' h => by
    have := pdec_any B6 E.length d6 E w' h rfl (by rw [hEb]; exact bytesT_len ht hct)
    rw [hEb, decT_bytesT t ht hct] at this; rw [hEb]; exact this)
  have hST := Lib.hid (show ∀ A2 c2 w', Sl w' A2 (c2 * 5) (t.cavs.flatMap cavV) → Sl w' A (c * 5) (t.cavs.flatMap cavV) → Calls Try.prog 17 #[.agg (tokV t A2 c2).toArray, .agg V.toArray] w' fun e w'' => e = .returned (.bool true) ∧ Below w'.heap.size w' w'' from fun A2 c2 w' h1 h2 => by
    have := psame_any t t ht ht A2 c2 A c w' h1 h2 htf.many
    rw [decide_eq_true rfl, ← hV] at this; exact this)
  obtain rfl : e2 = 1 := by rw [he2]; unfold errT; rw [hcu]; rfl
  clear hEb
  have hdec := Lib.hid (show ∀ w', Sl w' D e0 (byts l) → Calls Try.prog 11 #[.slice D l.length e0] w' fun e w'' => ∃ B d, e = .returned (.tuple #[.agg (tokV X B d).toArray, .int .i64 2]) ∧ Sl w'' B (d * 5) (X.cavs.flatMap cavV) ∧ Below w'.heap.size w' w'' by
    rw [hX]
    intro w' h
    have := pdec_any D l.length e0 l w' h rfl (by omega)
    rw [hO] at this; exact this)
  obtain ⟨Z, hZ⟩ : ∃ Z, Z = encT X := ⟨_, rfl⟩
  have hXe := Lib.hid (show ∀ B d w', Sl w' B (d * 5) (X.cavs.flatMap cavV) → Calls Try.prog 8 #[.agg (tokV X B d).toArray] w' fun e w'' => ∃ B d, e = .returned (.tuple #[.slice B Z.length d, .int .i64 0]) ∧ Sl w'' B d (byts Z) ∧ Below w'.heap.size w' w'' from fun B d w' h => by
    have := penc_any X hXok hXc.2.1 B d w' h
    rw [show errT X = 0 from if_pos hXc.2.2.2.1, ← hZ] at this; exact this)
  have hX0 : X = zeroK := by
    rw [hX]
    cases hq : decT l with
    | none => rfl
    | some x => rw [hq] at hO; cases hO
  have hXz := Lib.hid (show ∀ B d w', Sl w' B (d * 5) (X.cavs.flatMap cavV) → Calls Try.prog 17 #[.agg (tokV X B d).toArray, .agg #[Value.int .u64 0, .string { data := #[] }, .slice none 0 0, .bool false, .int .u8 0, .int .u8 0, .int .u8 0, .int .u8 0, .int .u8 0, .int .u8 0, .int .u8 0, .int .u8 0, .int .u8 0, .int .u8 0, .int .u8 0, .int .u8 0, .int .u8 0, .int .u8 0, .int .u8 0, .int .u8 0, .int .u8 0, .int .u8 0, .int .u8 0, .int .u8 0, .int .u8 0, .int .u8 0, .int .u8 0, .int .u8 0, .int .u8 0, .int .u8 0, .int .u8 0, .int .u8 0, .int .u8 0, .int .u8 0, .int .u8 0, .int .u8 0]] w' fun e w'' => e = .returned (.bool true) ∧ Below w'.heap.size w' w'' from fun B d w' h => by
    have := psame_any X zeroK hXok zeroK_ok B d none 0 w' h ⟨.inl rfl, Nat.le_refl _, fun _ => rfl⟩ hXc.2.2.2.2
    rw [decide_eq_true hX0, ztokA] at this; exact this)
  clear hX0
  rw [← hV, ← hU]
  clear hVl hUl hV hU ht htf hu huf g1 g2 g3 hO hX hXc hE hF he1 he2 hct hcu hZ
  go_enter Try.func4, Try.ntmps4
  go_wp2_with (first
      | (go_at_call 5; refine (palive_any _).mono ?_; rintro e w3 ⟨rfl, hb3⟩; have r0 := r0.later hb3 r0.lt; have r1 := r1.later hb3 r1.lt; have hbw3 := hbw0.trans (hb3.mono hbw0.size); have R0 := Lib.hid (show w3.heap[w.heap.size]? = some (.cells V.toArray 27 (0, 0)) from r0); have R1 := Lib.hid (show w3.heap[w.heap.size + 1]? = some (.cells U.toArray 27 (0, 0)) from r1); have hs3 := hs.later (Nat.le_refl _) hbw3; clear hb3 hbw0)
      | (with_reducible refine wpList_load_row rfl 27 (.tmp 3) rfl w.heap.size rfl 27 V.toArray (0, 0) _ R0.out Try.underlying27 rfl hzVa.out ?_)
      | (go_at_call 6; have _t := tok1; refine (hgt.out _ hs3).mono ?_; rintro e w4 ⟨rfl, hb4⟩; have r0 := r0.later hb4 r0.lt; have r1 := r1.later hb4 r1.lt; have hbw4 := hbw3.trans (hb4.mono hbw3.size); have R0 := Lib.hid (show w4.heap[w.heap.size]? = some (.cells V.toArray 27 (0, 0)) from r0); have R1 := Lib.hid (show w4.heap[w.heap.size + 1]? = some (.cells U.toArray 27 (0, 0)) from r1); have hp4 := hp.later (Nat.le_refl _) hbw4; clear hb4 tok1 hs3)
      | (refine wpList_step fun K hK => ?_; refine step_load_mid (some 23) rfl (by rfl) 27 (.tmp 4) rfl (w.heap.size + 1) 0 rfl U _ (row_range (show Row _ (w.heap.size + 1) 27 U from R1.out)) Try.underlying27 rfl hzU.out ?_; refine hK _ _ ?_; clear hK)
      | (go_at_call 6; have _t := tok2; refine (hgu.out _ hp4).mono ?_; rintro e w5 ⟨rfl, hb5⟩; have r0 := r0.later hb5 r0.lt; have r1 := r1.later hb5 r1.lt; have hbw5 := hbw4.trans (hb5.mono hbw4.size); have R0 := Lib.hid (show w5.heap[w.heap.size]? = some (.cells V.toArray 27 (0, 0)) from r0); have R1 := Lib.hid (show w5.heap[w.heap.size + 1]? = some (.cells U.toArray 27 (0, 0)) from r1); have hs5 := hs.later (Nat.le_refl _) hbw5; clear hb5 tok2 hp4)
      | (go_at_call 8; have _t := tok3; refine (hxt.out _ hs5).mono ?_; rintro e w6 ⟨B6, d6, rfl, hsl6, hb6⟩; have r0 := r0.later hb6 r0.lt; have r1 := r1.later hb6 r1.lt; have hbw6 := hbw5.trans (hb6.mono hbw5.size); have R0 := Lib.hid (show w6.heap[w.heap.size]? = some (.cells V.toArray 27 (0, 0)) from r0); have R1 := Lib.hid (show w6.heap[w.heap.size + 1]? = some (.cells U.toArray 27 (0, 0)) from r1); have hp6 := hp.later (Nat.le_refl _) hbw6; clear hb6 tok3 hs5)
      | (go_at_call 8; have _t := tok4; refine (hxu.out _ hp6).mono ?_; rintro e w7 ⟨B7, d7, rfl, hsl7, hb7⟩; have hsl6 := hsl6.later (Nat.le_refl _) hb7; have r0 := r0.later hb7 r0.lt; have r1 := r1.later hb7 r1.lt; have hbw7 := hbw6.trans (hb7.mono hbw6.size); have R0 := Lib.hid (show w7.heap[w.heap.size]? = some (.cells V.toArray 27 (0, 0)) from r0); have R1 := Lib.hid (show w7.heap[w.heap.size + 1]? = some (.cells U.toArray 27 (0, 0)) from r1); have hs7 := hs.later (Nat.le_refl _) hbw7; clear hb7 tok4 hp6)
      | (with_reducible refine wpList_load_row rfl 27 (.tmp 4) rfl (w.heap.size + 1) rfl 27 U.toArray (0, 0) _ R1.out Try.underlying27 rfl hzUa.out ?_)
      | (go_at_call 11; have _t := tok5; refine (hdb.out _ _ _ hsl6).mono ?_; rintro e w8 ⟨B8, d8, rfl, hsl8, hb8⟩; have hl8 := length_tokV htk B8 d8; have hone8 := Lib.hid (all_one (tokV_one t B8 d8));  have hS8 := Lib.hid (hST.out B8 d8); obtain ⟨V8, hV8⟩ : ∃ V, V = tokV t B8 d8 := ⟨_, rfl⟩; rw [← hV8] at hl8 hone8 hS8 ⊢; have hzV8 := Lib.hid (show (Try.prog.info? 27).map (·.size) = some V8.length by rw [size_tok, hl8]); have hzV8a := Lib.hid (show (Try.prog.info? 27).map (·.size) = some V8.toArray.size by rw [size_tok, List.size_toArray, hl8]); have h36V8 := Lib.hid (show 36 = V8.toArray.size by rw [List.size_toArray, hl8]); have honeV8 := hone8; have r0 := r0.later hb8 r0.lt; have r1 := r1.later hb8 r1.lt; have hbw8 := hbw7.trans (hb8.mono hbw7.size); have R0 := Lib.hid (show w8.heap[w.heap.size]? = some (.cells V.toArray 27 (0, 0)) from r0); have R1 := Lib.hid (show w8.heap[w.heap.size + 1]? = some (.cells U.toArray 27 (0, 0)) from r1); have hs8 := hs.later (Nat.le_refl _) hbw8; have hsl7 := hsl7.later (Nat.le_refl _) hb8; have hsl6 := hsl6.later (Nat.le_refl _) hb8; clear tok5 hb8 hl8 hV8)
      | (with_reducible refine wpList_store_row rfl 27 (.tmp 11) (.tmp 47) rfl w8.heap.size V8.toArray rfl rfl 27 _ (heap_alloc_new w8 _) hzV8a.out (Eq.trans (by kernel_rfl) h36V8.out) honeV8.out ?_; refine Hid.out ?_))
  refine Lib.hid ?_
  generalize hw9 : World.setRow _ _ _ = w9
  obtain ⟨r8, hb9⟩ := row_new_set (xs := V8) hw9
  have r0 := r0.later hb9 r0.lt
  have r1 := r1.later hb9 r1.lt
  have hbw9 := hbw8.trans (hb9.mono hbw8.size)
  have R0 := Lib.hid (show w9.heap[w.heap.size]? = some (.cells V.toArray 27 (0, 0)) from r0)
  have R1 := Lib.hid (show w9.heap[w.heap.size + 1]? = some (.cells U.toArray 27 (0, 0)) from r1)
  have hsl8 := hsl8.later (Nat.le_refl _) hb9
  have hsl7 := hsl7.later (Nat.le_refl _) hb9
  have hsl6 := hsl6.later (Nat.le_refl _) hb9
  have hs9 := hs.later (Nat.le_refl _) hbw9
  clear hw9 hb9
  generalize w8.heap.size = g8 at *
  have hr8 := row_range r8
  go_wp2_with (first
      | (refine wpList_step fun K hK => ?_; refine step_load_mid (some 52) rfl (by rfl) 27 (.tmp 11) rfl g8 0 rfl V8 _ hr8 Try.underlying27 rfl hzV8.out ?_; refine hK _ _ ?_; clear hK)
      | (refine wpList_step fun K hK => ?_; refine step_load_mid (some 53) rfl (by rfl) 27 (.tmp 3) rfl w.heap.size 0 rfl V _ (row_range (show Row _ w.heap.size 27 V from R0.out)) Try.underlying27 rfl hzV.out ?_; refine hK _ _ ?_; clear hK)
      | (go_at_call 17; have _t := tok6; refine (hS8.out _ hsl8 hs9).mono ?_; rintro e w10 ⟨rfl, hb10⟩; have hsl7 := hsl7.later (Nat.le_refl _) hb10; have hsl6 := hsl6.later (Nat.le_refl _) hb10; have r0 := r0.later hb10 r0.lt; have r1 := r1.later hb10 r1.lt; have hbw10 := hbw9.trans (hb10.mono hbw9.size); have R0 := Lib.hid (show w10.heap[w.heap.size]? = some (.cells V.toArray 27 (0, 0)) from r0); have R1 := Lib.hid (show w10.heap[w.heap.size + 1]? = some (.cells U.toArray 27 (0, 0)) from r1); clear hb10 tok6 hsl8 hs9))
  go_wp2_with fail
  refine wp_region_noPanic ?_
  refine wp_region_held_drew (S := fun w' => Below w10.heap.size w10 w') (by kernel_rfl) ((Below.refl _ _).drew) (fun hHeld => ?_)
  have hB := hHeld
  refine rtake 0 _ (some 57) _ rfl rfl (by kernel_rfl) (by kernel_rfl) (by kernel_rfl) (fun _ _ _ h => h) (by rfl) hHeld (by intro w hS; go_simp; try with_reducible rfl) ?_
  try (first | (rw [put_some]; dsimp only [List.set]) | rw [put_none])
  refine rtake 1 _ (some 58) _ rfl rfl (by kernel_rfl) (by kernel_rfl) (by kernel_rfl) (fun _ _ _ h => h) (by rfl) hHeld (by intro w hS; go_simp; try with_reducible rfl) ?_
  try (first | (rw [put_some]; dsimp only [List.set]) | rw [put_none])
  refine rtake 2 _ (some 59) _ rfl rfl (by kernel_rfl) (by kernel_rfl) (by kernel_rfl) (fun _ _ _ h => h) (by rfl) hHeld (by intro w hS; go_simp; try with_reducible rfl) ?_
  try (first | (rw [put_some]; dsimp only [List.set]) | rw [put_none])
  refine rtake 3 _ (some 60) _ rfl rfl (by kernel_rfl) (by kernel_rfl) (by kernel_rfl) (fun _ _ _ h => h) (by rfl) hHeld (by intro w hS; go_simp; try with_reducible rfl) ?_
  try (first | (rw [put_some]; dsimp only [List.set]) | rw [put_none])
  refine rtake 4 _ (some 61) _ rfl rfl (by kernel_rfl) (by kernel_rfl) (by kernel_rfl) (fun _ _ _ h => h) (by rfl) hHeld (by intro w hS; go_simp; try with_reducible rfl) ?_
  try (first | (rw [put_some]; dsimp only [List.set]) | rw [put_none])
  refine rtake 5 _ (some 62) _ rfl rfl (by kernel_rfl) (by kernel_rfl) (by kernel_rfl) (fun _ _ _ h => h) (by rfl) hHeld (by intro w hS; go_simp; try with_reducible rfl) ?_
  try (first | (rw [put_some]; dsimp only [List.set]) | rw [put_none])
  refine rtake 6 _ (some 63) _ rfl rfl (by kernel_rfl) (by kernel_rfl) (by kernel_rfl) (fun _ _ _ h => h) (by rfl) hHeld (by intro w hS; go_simp; try with_reducible rfl) ?_
  try (first | (rw [put_some]; dsimp only [List.set]) | rw [put_none])
  refine rskip 7 _ (some 64) rfl rfl (by kernel_rfl) (by kernel_rfl) (by kernel_rfl) (fun _ _ _ h => h) (by rfl) hHeld ?_
  try (first | (rw [put_some]; dsimp only [List.set]) | rw [put_none])
  refine rskip 8 _ (some 65) rfl rfl (by kernel_rfl) (by kernel_rfl) (by kernel_rfl) (fun _ _ _ h => h) (by rfl) hHeld ?_
  try (first | (rw [put_some]; dsimp only [List.set]) | rw [put_none])
  refine rskip 9 _ (some 66) rfl rfl (by kernel_rfl) (by kernel_rfl) (by kernel_rfl) (fun _ _ _ h => h) (by rfl) hHeld ?_
  try (first | (rw [put_some]; dsimp only [List.set]) | rw [put_none])
  refine rskip 10 _ (some 67) rfl rfl (by kernel_rfl) (by kernel_rfl) (by kernel_rfl) (fun _ _ _ h => h) (by rfl) hHeld ?_
  try (first | (rw [put_some]; dsimp only [List.set]) | rw [put_none])
  refine rskip 11 _ (some 68) rfl rfl (by kernel_rfl) (by kernel_rfl) (by kernel_rfl) (fun _ _ _ h => h) (by rfl) hHeld ?_
  try (first | (rw [put_some]; dsimp only [List.set]) | rw [put_none])
  refine rskip 12 _ (some 69) rfl rfl (by kernel_rfl) (by kernel_rfl) (by kernel_rfl) (fun _ _ _ h => h) (by rfl) hHeld ?_
  try (first | (rw [put_some]; dsimp only [List.set]) | rw [put_none])
  refine rskip 13 _ (some 70) rfl rfl (by kernel_rfl) (by kernel_rfl) (by kernel_rfl) (fun _ _ _ h => h) (by rfl) hHeld ?_
  try (first | (rw [put_some]; dsimp only [List.set]) | rw [put_none])
  refine rskip 14 _ (some 71) rfl rfl (by kernel_rfl) (by kernel_rfl) (by kernel_rfl) (fun _ _ _ h => h) (by rfl) hHeld ?_
  try (first | (rw [put_some]; dsimp only [List.set]) | rw [put_none])
  refine rskip 15 _ (some 72) rfl rfl (by kernel_rfl) (by kernel_rfl) (by kernel_rfl) (fun _ _ _ h => h) (by rfl) hHeld ?_
  try (first | (rw [put_some]; dsimp only [List.set]) | rw [put_none])
  refine rtake 16 _ (some 73) _ rfl rfl (by kernel_rfl) (by kernel_rfl) (by kernel_rfl) (fun _ _ _ h => h) (by rfl) hHeld (by intro w hS; go_simp; try with_reducible rfl) ?_
  try (first | (rw [put_some]; dsimp only [List.set]) | rw [put_none])
  refine wpAnyH_done (by kernel_rfl) ?_ _
  refine NoPanic.normal ?_
  have hbwN := hbw10.trans (hB.mono hbw10.size)
  clear hHeld hB
  generalize w10.drew = wN at *
  go_wp2_with (first
      | (go_at_call 11; have _t := tok7; refine (hdec.out _ (hq.later (Nat.le_refl _) hbwN)).mono ?_; rintro e wD ⟨BD, dD, rfl, hslD, hbD⟩; have hlD := length_tokV hXok BD dD; have honeD := all_one (tokV_one X BD dD); have hXeD := hXe.out BD dD; have hXzD := hXz.out BD dD; obtain ⟨VX, hVX⟩ : ∃ V, V = tokV X BD dD := ⟨_, rfl⟩; rw [← hVX] at hlD honeD hXeD hXzD ⊢; have hzVX := Lib.hid (show (Try.prog.info? 27).map (·.size) = some VX.toArray.size by rw [size_tok, List.size_toArray, hlD]); have hzVXl := Lib.hid (show (Try.prog.info? 27).map (·.size) = some VX.length by rw [size_tok, hlD]); have h36X := Lib.hid (show 36 = VX.toArray.size by rw [List.size_toArray, hlD]); have honeX := Lib.hid honeD; have HXe := Lib.hid hXeD; have HXz := Lib.hid hXzD; clear tok7 hVX hlD honeD hXeD hXzD)
      | (with_reducible refine wpList_store_row rfl 27 (.tmp 13) (.tmp 77) rfl wD.heap.size VX.toArray rfl rfl 27 _ (heap_alloc_new wD _) hzVX.out (Eq.trans (by kernel_rfl) h36X.out) honeX.out ?_; refine Hid.out ?_))
  refine Lib.hid ?_
  generalize hwF : World.setRow _ _ _ = wF
  obtain ⟨rF, hbF⟩ := row_new_set (xs := VX) hwF
  have hbwD := hbwN.trans (hbD.mono hbwN.size)
  have hbwF := hbwD.trans (hbF.mono hbwD.size)
  have hslF := hslD.later (Nat.le_refl _) hbF
  have RF := Lib.hid (show wF.heap[wD.heap.size]? = some (.cells VX.toArray 27 (0, 0)) from rF)
  clear hwF rF hbD hbF hslD hbwD
  go_wp2_with (first
      | (with_reducible refine wpList_load_row rfl 27 (.tmp 13) rfl wD.heap.size rfl 27 VX.toArray (0, 0) _ RF.out Try.underlying27 rfl hzVX.out ?_)
      | (go_at_call 8; refine (HXe.out _ hslF).mono ?_; rintro e wG ⟨BG, dG, rfl, hslG, hbG⟩; have hbwG := hbwF.trans (hbG.mono hbwF.size); have rG := Row.later (show Row wF wD.heap.size 27 VX from RF.out) hbG (Row.lt RF.out); have hrG := row_range rG; have hslX := hslF.later (Nat.le_refl _) hbG)
      | (refine wpList_step fun K hK => ?_; refine step_load_mid (some 87) rfl (by rfl) 27 (.tmp 13) rfl wD.heap.size 0 rfl VX _ hrG Try.underlying27 rfl hzVXl.out ?_; refine hK _ _ ?_; clear hK)
      | (go_at_call 17; refine (HXz.out _ hslX).mono ?_; rintro e wH ⟨rfl, hbH⟩; have hbwH := hbwG.trans (hbH.mono hbwG.size)))
  go_ret
  exact ⟨rfl, hbwH⟩
end Go.Proofs.Ytjmkclhakamcgaa
