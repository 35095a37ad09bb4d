/- LAYER 10, PacketTells: the walk of the law. -/
import Derived.Test.YtjmkclhakamcgaaT11
import Derived.Test.YtjmkclhakamcgaaT10
import Derived.Test.YtjmkclhakamcgaaT01
import Derived.Test.YtjmkclhakamcgaaT00
namespace Go.Proofs.Ytjmkclhakamcgaa
open Go Go.RowKit

set_option maxRecDepth 100000 in
set_option maxHeartbeats 4000000 in
theorem ptells_walk (t u : Tok) (ht : t.Ok) (htf : t.Fit) (hu : u.Ok) (huf : u.Fit) (A : Option Addr) (c : Nat) (B : Option Addr) (d : Nat) (D : Option Addr) (e0 : Nat) (l : List UInt8) (w : World)
    (hs : Sl w A (c * 5) (t.cavs.flatMap cavV)) (hp : Sl w B (d * 5) (u.cavs.flatMap cavV)) (hq : Sl w D e0 (byts l)) (hlm : l.length ≤ 9223372036854775807) :
    Calls Try.prog 3 #[.agg (tokV t A c).toArray, .agg (tokV u B d).toArray, .slice D l.length e0] w fun e w' => e = .returned (.bool true) ∧ Below w.heap.size w w' := by
  by_cases g1 : 10000 < capT t
  · obtain ⟨V, hV⟩ : ∃ V, V = tokV t A c := ⟨_, rfl⟩
    obtain ⟨U, hU⟩ : ∃ U, U = tokV u B d := ⟨_, rfl⟩
    have hVl : V.length = 36 := by rw [hV]; exact length_tokV ht A c
    have hUl : U.length = 36 := by rw [hU]; exact length_tokV hu B d
    have hzV := Lib.hid (show (Try.prog.info? 27).map (·.size) = some V.length by rw [size_tok, hVl])
    have hzVa := Lib.hid (show (Try.prog.info? 27).map (·.size) = some V.toArray.size by rw [size_tok, List.size_toArray, hVl])
    have hzU := Lib.hid (show (Try.prog.info? 27).map (·.size) = some U.length by rw [size_tok, hUl])
    have hgt := Lib.hid (show ∀ w', Sl w' A (c * 5) (t.cavs.flatMap cavV) → Calls Try.prog 6 #[.agg V.toArray] w' fun e w'' => e = .returned (.int .i64 (if 10000 < capT t then 1 else 0)) ∧ Below w'.heap.size w' w'' by rw [hV]; exact fun w' h => rgreatT_any t htf A c w' h)
    have hgu := Lib.hid (show ∀ w', Sl w' B (d * 5) (u.cavs.flatMap cavV) → Calls Try.prog 6 #[.agg U.toArray] w' fun e w'' => e = .returned (.int .i64 (if 10000 < capT u then 1 else 0)) ∧ Below w'.heap.size w' w'' by rw [hU]; exact fun w' h => rgreatT_any u huf B d w' h)
    obtain ⟨r0, r1, hb0, _⟩ := two_rows (w := w) (A := V) (B := U) (tA := 27) (tB := 27) rfl
    have tok1 : True := trivial
    have tok2 : True := trivial
    rw [← hV, ← hU]
    clear hVl hUl
    rw [if_pos g1] at hgt
    clear g1 hV hU ht htf hu huf
    go_enter Try.func3, Try.ntmps3
    go_wp2_with (first
        | (go_at_call 5; refine (palive_any _).mono ?_; rintro e w3 ⟨rfl, hb3⟩; have r0 := r0.later hb3 r0.lt; have r1 := r1.later hb3 r1.lt; have hbw3 := hb0.trans (hb3.mono hb0.size); have hs3 := hs.later (Nat.le_refl _) hbw3; have R0 := Lib.hid (show w3.heap[w.heap.size]? = some (.cells V.toArray 27 (0, 0)) from r0); clear hb3 hb0)
        | (with_reducible refine wpList_load_row rfl 27 (.tmp 3) rfl w.heap.size rfl 27 V.toArray (0, 0) _ R0.out Try.underlying27 rfl hzVa.out ?_)
        | (go_at_call 6; have _t := tok1; refine (hgt.out _ hs3).mono ?_; rintro e w4 ⟨rfl, hb4⟩; have r0 := r0.later hb4 r0.lt; have r1 := r1.later hb4 r1.lt; have hbw4 := hbw3.trans (hb4.mono hbw3.size); have hp4 := hp.later (Nat.le_refl _) hbw4; have R0 := Lib.hid (show w4.heap[w.heap.size]? = some (.cells V.toArray 27 (0, 0)) from r0); have hr1 := row_range r1; clear hb4 tok1 hs3))
    go_ret
    exact ⟨rfl, hbw4⟩
  by_cases g2 : 10000 < capT u
  · obtain ⟨V, hV⟩ : ∃ V, V = tokV t A c := ⟨_, rfl⟩
    obtain ⟨U, hU⟩ : ∃ U, U = tokV u B d := ⟨_, rfl⟩
    have hVl : V.length = 36 := by rw [hV]; exact length_tokV ht A c
    have hUl : U.length = 36 := by rw [hU]; exact length_tokV hu B d
    have hzV := Lib.hid (show (Try.prog.info? 27).map (·.size) = some V.length by rw [size_tok, hVl])
    have hzVa := Lib.hid (show (Try.prog.info? 27).map (·.size) = some V.toArray.size by rw [size_tok, List.size_toArray, hVl])
    have hzU := Lib.hid (show (Try.prog.info? 27).map (·.size) = some U.length by rw [size_tok, hUl])
    have hgt := Lib.hid (show ∀ w', Sl w' A (c * 5) (t.cavs.flatMap cavV) → Calls Try.prog 6 #[.agg V.toArray] w' fun e w'' => e = .returned (.int .i64 (if 10000 < capT t then 1 else 0)) ∧ Below w'.heap.size w' w'' by rw [hV]; exact fun w' h => rgreatT_any t htf A c w' h)
    have hgu := Lib.hid (show ∀ w', Sl w' B (d * 5) (u.cavs.flatMap cavV) → Calls Try.prog 6 #[.agg U.toArray] w' fun e w'' => e = .returned (.int .i64 (if 10000 < capT u then 1 else 0)) ∧ Below w'.heap.size w' w'' by rw [hU]; exact fun w' h => rgreatT_any u huf B d w' h)
    obtain ⟨r0, r1, hb0, _⟩ := two_rows (w := w) (A := V) (B := U) (tA := 27) (tB := 27) rfl
    have tok1 : True := trivial
    have tok2 : True := trivial
    rw [← hV, ← hU]
    clear hVl hUl
    rw [if_neg g1] at hgt
    rw [if_pos g2] at hgu
    clear g2 g1 hV hU ht htf hu huf
    go_enter Try.func3, Try.ntmps3
    go_wp2_with (first
        | (go_at_call 5; refine (palive_any _).mono ?_; rintro e w3 ⟨rfl, hb3⟩; have r0 := r0.later hb3 r0.lt; have r1 := r1.later hb3 r1.lt; have hbw3 := hb0.trans (hb3.mono hb0.size); have hs3 := hs.later (Nat.le_refl _) hbw3; have R0 := Lib.hid (show w3.heap[w.heap.size]? = some (.cells V.toArray 27 (0, 0)) from r0); clear hb3 hb0)
        | (with_reducible refine wpList_load_row rfl 27 (.tmp 3) rfl w.heap.size rfl 27 V.toArray (0, 0) _ R0.out Try.underlying27 rfl hzVa.out ?_)
        | (go_at_call 6; have _t := tok1; refine (hgt.out _ hs3).mono ?_; rintro e w4 ⟨rfl, hb4⟩; have r0 := r0.later hb4 r0.lt; have r1 := r1.later hb4 r1.lt; have hbw4 := hbw3.trans (hb4.mono hbw3.size); have hp4 := hp.later (Nat.le_refl _) hbw4; have R0 := Lib.hid (show w4.heap[w.heap.size]? = some (.cells V.toArray 27 (0, 0)) from r0); have hr1 := row_range r1; clear hb4 tok1 hs3)
        | (refine wpList_step fun K hK => ?_; refine step_load_mid (some 22) rfl (by rfl) 27 (.tmp 4) rfl (w.heap.size + 1) 0 rfl U _ hr1 Try.underlying27 rfl hzU.out ?_; refine hK _ _ ?_; clear hK)
        | (go_at_call 6; have _t := tok2; refine (hgu.out _ hp4).mono ?_; rintro e w5 ⟨rfl, hb5⟩; have r0 := r0.later hb5 r0.lt; have r1 := r1.later hb5 r1.lt; have hbw5 := hbw4.trans (hb5.mono hbw4.size); have hs5 := hs.later (Nat.le_refl _) hbw5; have R0 := Lib.hid (show w5.heap[w.heap.size]? = some (.cells V.toArray 27 (0, 0)) from r0); clear hb5 tok2 hp4 hr1))
    go_ret
    exact ⟨rfl, hbw5⟩
  by_cases g3 : 10000 < l.length
  · obtain ⟨V, hV⟩ : ∃ V, V = tokV t A c := ⟨_, rfl⟩
    obtain ⟨U, hU⟩ : ∃ U, U = tokV u B d := ⟨_, rfl⟩
    have hVl : V.length = 36 := by rw [hV]; exact length_tokV ht A c
    have hUl : U.length = 36 := by rw [hU]; exact length_tokV hu B d
    have hzV := Lib.hid (show (Try.prog.info? 27).map (·.size) = some V.length by rw [size_tok, hVl])
    have hzVa := Lib.hid (show (Try.prog.info? 27).map (·.size) = some V.toArray.size by rw [size_tok, List.size_toArray, hVl])
    have hzU := Lib.hid (show (Try.prog.info? 27).map (·.size) = some U.length by rw [size_tok, hUl])
    have hgt := Lib.hid (show ∀ w', Sl w' A (c * 5) (t.cavs.flatMap cavV) → Calls Try.prog 6 #[.agg V.toArray] w' fun e w'' => e = .returned (.int .i64 (if 10000 < capT t then 1 else 0)) ∧ Below w'.heap.size w' w'' by rw [hV]; exact fun w' h => rgreatT_any t htf A c w' h)
    have hgu := Lib.hid (show ∀ w', Sl w' B (d * 5) (u.cavs.flatMap cavV) → Calls Try.prog 6 #[.agg U.toArray] w' fun e w'' => e = .returned (.int .i64 (if 10000 < capT u then 1 else 0)) ∧ Below w'.heap.size w' w'' by rw [hU]; exact fun w' h => rgreatT_any u huf B d w' h)
    obtain ⟨r0, r1, hb0, _⟩ := two_rows (w := w) (A := V) (B := U) (tA := 27) (tB := 27) rfl
    have tok1 : True := trivial
    have tok2 : True := trivial
    rw [← hV, ← hU]
    clear hVl hUl
    rw [if_neg g1] at hgt
    rw [if_neg g2] at hgu
    have g3' : (10000 : Int) < (l.length : Int) := by omega
    clear g3 g2 g1 hV hU ht htf hu huf
    go_enter Try.func3, Try.ntmps3
    go_wp2_with (first
        | (go_at_call 5; refine (palive_any _).mono ?_; rintro e w3 ⟨rfl, hb3⟩; have r0 := r0.later hb3 r0.lt; have r1 := r1.later hb3 r1.lt; have hbw3 := hb0.trans (hb3.mono hb0.size); have hs3 := hs.later (Nat.le_refl _) hbw3; have R0 := Lib.hid (show w3.heap[w.heap.size]? = some (.cells V.toArray 27 (0, 0)) from r0); clear hb3 hb0)
        | (with_reducible refine wpList_load_row rfl 27 (.tmp 3) rfl w.heap.size rfl 27 V.toArray (0, 0) _ R0.out Try.underlying27 rfl hzVa.out ?_)
        | (go_at_call 6; have _t := tok1; refine (hgt.out _ hs3).mono ?_; rintro e w4 ⟨rfl, hb4⟩; have r0 := r0.later hb4 r0.lt; have r1 := r1.later hb4 r1.lt; have hbw4 := hbw3.trans (hb4.mono hbw3.size); have hp4 := hp.later (Nat.le_refl _) hbw4; have R0 := Lib.hid (show w4.heap[w.heap.size]? = some (.cells V.toArray 27 (0, 0)) from r0); have hr1 := row_range r1; clear hb4 tok1 hs3)
        | (refine wpList_step fun K hK => ?_; refine step_load_mid (some 22) rfl (by rfl) 27 (.tmp 4) rfl (w.heap.size + 1) 0 rfl U _ hr1 Try.underlying27 rfl hzU.out ?_; refine hK _ _ ?_; clear hK)
        | (go_at_call 6; have _t := tok2; refine (hgu.out _ hp4).mono ?_; rintro e w5 ⟨rfl, hb5⟩; have r0 := r0.later hb5 r0.lt; have r1 := r1.later hb5 r1.lt; have hbw5 := hbw4.trans (hb5.mono hbw4.size); have hs5 := hs.later (Nat.le_refl _) hbw5; have R0 := Lib.hid (show w5.heap[w.heap.size]? = some (.cells V.toArray 27 (0, 0)) from r0); clear hb5 tok2 hp4 hr1))
    go_ret
    exact ⟨rfl, hbw5⟩
  cases hcan : checkT t with
  | true =>
    cases hO : (decT l).isSome with
    | true => exact ptells_11 t u ht htf hu huf A c B d D e0 l w hs hp hq g1 g2 g3 hcan hO
    | false => exact ptells_10 t u ht htf hu huf A c B d D e0 l w hs hp hq g1 g2 g3 hcan hO
  | false =>
    cases hO : (decT l).isSome with
    | true => exact ptells_01 t u ht htf hu huf A c B d D e0 l w hs hp hq g1 g2 g3 hcan hO
    | false => exact ptells_00 t u ht htf hu huf A c B d D e0 l w hs hp hq g1 g2 g3 hcan hO
end Go.Proofs.Ytjmkclhakamcgaa
