/- LAYER 11, BundleTells, proved: for any two bundles and any bytes, and every state of memory, the call returns true and turns nothing that was there: of any bundle whether it can be, and its bytes, of any bytes the bundle, and of any two whether they are one, are the document's; a clone, and a bundle made of its tokens, are the same. Conditions: none. -/
import Derived.Test.YthiebbhooigogaaGU1
import Derived.Test.YthiebbhooigogaaGU0
import Derived.Test.YthiebbhooigogaaK
import Derived.Test.YthiebbhooigogaaGO10
/- LAYER 11, BundleTells: the walk of the law. -/
namespace Go.Proofs.Ythiebbhooigogaa
open Go Go.RowKit

set_option maxRecDepth 100000 in
set_option maxHeartbeats 4000000 in
theorem btells_walk {a b : Bun} {w : World} {v u : Value} (ha : a.Ok) (hfa : a.Fit) (hb : b.Ok) (hfb : b.Fit) (h1 : BunV 0 a w v) (h2 : BunV 0 b w u) (D : Option Addr) (e0 : Nat) (l : List UInt8) (hq : Sl w D e0 (byts l)) (_hlm : l.length ≤ 9223372036854775807) :
    Calls Try.prog 3 #[v, u, .slice D l.length e0] w fun e w' => e = .returned (.bool true) ∧ Below w.heap.size w w' := by
  cases g1 : largeB a with
  | true =>
    obtain ⟨V, rfl, hVl, _, hv⟩ := h1.cells ha
    obtain ⟨U, rfl, hUl, _, hu⟩ := h2.cells hb
    have hzV := Lib.hid (show (Try.prog.info? 30).map (·.size) = some V.length by rw [size_bun, hVl])
    have hzVa := Lib.hid (show (Try.prog.info? 30).map (·.size) = some V.toArray.size by rw [size_bun, List.size_toArray, hVl])
    have hzU := Lib.hid (show (Try.prog.info? 30).map (·.size) = some U.length by rw [size_bun, hUl])
    have hl1 := Lib.hid (fun w' (h : BunV 0 a w' (.agg V.toArray)) => rlarge_v ha hfa h)
    have hl2 := Lib.hid (fun w' (h : BunV 0 b w' (.agg U.toArray)) => rlarge_v hb hfb h)
    obtain ⟨r0, r1, hbw1, _⟩ := two_rows (w := w) (A := V) (B := U) (tA := 30) (tB := 30) rfl
    have tok1 : True := trivial
    have tok2 : True := trivial
    rw [if_pos g1] at hl1
    clear hVl hUl h1 h2 ha hfa hb hfb
    go_enter Try.func3, Try.ntmps3
    go_wp2_with (first
        | (go_at_call 6; refine (balive_any _).mono ?_; rintro e w3 ⟨rfl, hb3⟩; have r0 := r0.later hb3 r0.lt; have r1 := r1.later hb3 r1.lt; have hbw3 := hbw1.trans (hb3.mono hbw1.size); have R0 := Lib.hid (show w3.heap[w.heap.size]? = some (.cells V.toArray 30 (0, 0)) from r0); have R1 := Lib.hid (show w3.heap[w.heap.size + 1]? = some (.cells U.toArray 30 (0, 0)) from r1); clear hb3)
        | (with_reducible refine wpList_load_row rfl 30 (.tmp 3) rfl w.heap.size rfl 30 V.toArray (0, 0) _ R0.out Try.underlying30 rfl hzVa.out ?_)
        | (go_at_call 7; have _t := tok1; refine (hl1.out _ (hv.later hbw3)).mono ?_; rintro e w4 ⟨rfl, hb4⟩; have r0 := r0.later hb4 r0.lt; have r1 := r1.later hb4 r1.lt; have hbw4 := hbw3.trans (hb4.mono hbw3.size); have R0 := Lib.hid (show w4.heap[w.heap.size]? = some (.cells V.toArray 30 (0, 0)) from r0); have R1 := Lib.hid (show w4.heap[w.heap.size + 1]? = some (.cells U.toArray 30 (0, 0)) from r1); clear hb4 tok1))
    go_ret
    exact ⟨rfl, hbw4⟩
  | false =>
  cases g2 : largeB b with
  | true =>
    obtain ⟨V, rfl, hVl, _, hv⟩ := h1.cells ha
    obtain ⟨U, rfl, hUl, _, hu⟩ := h2.cells hb
    have hzV := Lib.hid (show (Try.prog.info? 30).map (·.size) = some V.length by rw [size_bun, hVl])
    have hzVa := Lib.hid (show (Try.prog.info? 30).map (·.size) = some V.toArray.size by rw [size_bun, List.size_toArray, hVl])
    have hzU := Lib.hid (show (Try.prog.info? 30).map (·.size) = some U.length by rw [size_bun, hUl])
    have hl1 := Lib.hid (fun w' (h : BunV 0 a w' (.agg V.toArray)) => rlarge_v ha hfa h)
    have hl2 := Lib.hid (fun w' (h : BunV 0 b w' (.agg U.toArray)) => rlarge_v hb hfb h)
    obtain ⟨r0, r1, hbw1, _⟩ := two_rows (w := w) (A := V) (B := U) (tA := 30) (tB := 30) rfl
    have tok1 : True := trivial
    have tok2 : True := trivial
    rw [if_neg (by rw [g1]; exact Bool.false_ne_true)] at hl1
    rw [if_pos g2] at hl2
    clear hVl hUl h1 h2 ha hfa hb hfb
    go_enter Try.func3, Try.ntmps3
    go_wp2_with (first
        | (go_at_call 6; refine (balive_any _).mono ?_; rintro e w3 ⟨rfl, hb3⟩; have r0 := r0.later hb3 r0.lt; have r1 := r1.later hb3 r1.lt; have hbw3 := hbw1.trans (hb3.mono hbw1.size); have R0 := Lib.hid (show w3.heap[w.heap.size]? = some (.cells V.toArray 30 (0, 0)) from r0); have R1 := Lib.hid (show w3.heap[w.heap.size + 1]? = some (.cells U.toArray 30 (0, 0)) from r1); clear hb3)
        | (with_reducible refine wpList_load_row rfl 30 (.tmp 3) rfl w.heap.size rfl 30 V.toArray (0, 0) _ R0.out Try.underlying30 rfl hzVa.out ?_)
        | (go_at_call 7; have _t := tok1; refine (hl1.out _ (hv.later hbw3)).mono ?_; rintro e w4 ⟨rfl, hb4⟩; have r0 := r0.later hb4 r0.lt; have r1 := r1.later hb4 r1.lt; have hbw4 := hbw3.trans (hb4.mono hbw3.size); have R0 := Lib.hid (show w4.heap[w.heap.size]? = some (.cells V.toArray 30 (0, 0)) from r0); have R1 := Lib.hid (show w4.heap[w.heap.size + 1]? = some (.cells U.toArray 30 (0, 0)) from r1); clear hb4 tok1)
        | (refine wpList_step fun K hK => ?_; refine step_load_mid (some 21) rfl (by rfl) 30 (.tmp 4) rfl (w.heap.size + 1) 0 rfl U _ (row_range (show Row _ (w.heap.size + 1) 30 U from R1.out)) Try.underlying30 rfl hzU.out ?_; refine hK _ _ ?_; clear hK)
        | (go_at_call 7; have _t := tok2; refine (hl2.out _ (hu.later hbw4)).mono ?_; rintro e w5 ⟨rfl, hb5⟩; have r0 := r0.later hb5 r0.lt; have r1 := r1.later hb5 r1.lt; have hbw5 := hbw4.trans (hb5.mono hbw4.size); have R0 := Lib.hid (show w5.heap[w.heap.size]? = some (.cells V.toArray 30 (0, 0)) from r0); have R1 := Lib.hid (show w5.heap[w.heap.size + 1]? = some (.cells U.toArray 30 (0, 0)) from r1); clear hb5 tok2))
    go_ret
    exact ⟨rfl, hbw5⟩
  | false =>
  by_cases g3 : 70000 < l.length
  · obtain ⟨V, rfl, hVl, _, hv⟩ := h1.cells ha
    obtain ⟨U, rfl, hUl, _, hu⟩ := h2.cells hb
    have hzV := Lib.hid (show (Try.prog.info? 30).map (·.size) = some V.length by rw [size_bun, hVl])
    have hzVa := Lib.hid (show (Try.prog.info? 30).map (·.size) = some V.toArray.size by rw [size_bun, List.size_toArray, hVl])
    have hzU := Lib.hid (show (Try.prog.info? 30).map (·.size) = some U.length by rw [size_bun, hUl])
    have hl1 := Lib.hid (fun w' (h : BunV 0 a w' (.agg V.toArray)) => rlarge_v ha hfa h)
    have hl2 := Lib.hid (fun w' (h : BunV 0 b w' (.agg U.toArray)) => rlarge_v hb hfb h)
    obtain ⟨r0, r1, hbw1, _⟩ := two_rows (w := w) (A := V) (B := U) (tA := 30) (tB := 30) rfl
    have tok1 : True := trivial
    have tok2 : True := trivial
    rw [if_neg (by rw [g1]; exact Bool.false_ne_true)] at hl1
    rw [if_neg (by rw [g2]; exact Bool.false_ne_true)] at hl2
    have g3' : (70000 : Int) < (l.length : Int) := by omega
    clear g3
    clear hVl hUl h1 h2 ha hfa hb hfb
    go_enter Try.func3, Try.ntmps3
    go_wp2_with (first
        | (go_at_call 6; refine (balive_any _).mono ?_; rintro e w3 ⟨rfl, hb3⟩; have r0 := r0.later hb3 r0.lt; have r1 := r1.later hb3 r1.lt; have hbw3 := hbw1.trans (hb3.mono hbw1.size); have R0 := Lib.hid (show w3.heap[w.heap.size]? = some (.cells V.toArray 30 (0, 0)) from r0); have R1 := Lib.hid (show w3.heap[w.heap.size + 1]? = some (.cells U.toArray 30 (0, 0)) from r1); clear hb3)
        | (with_reducible refine wpList_load_row rfl 30 (.tmp 3) rfl w.heap.size rfl 30 V.toArray (0, 0) _ R0.out Try.underlying30 rfl hzVa.out ?_)
        | (go_at_call 7; have _t := tok1; refine (hl1.out _ (hv.later hbw3)).mono ?_; rintro e w4 ⟨rfl, hb4⟩; have r0 := r0.later hb4 r0.lt; have r1 := r1.later hb4 r1.lt; have hbw4 := hbw3.trans (hb4.mono hbw3.size); have R0 := Lib.hid (show w4.heap[w.heap.size]? = some (.cells V.toArray 30 (0, 0)) from r0); have R1 := Lib.hid (show w4.heap[w.heap.size + 1]? = some (.cells U.toArray 30 (0, 0)) from r1); clear hb4 tok1)
        | (refine wpList_step fun K hK => ?_; refine step_load_mid (some 21) rfl (by rfl) 30 (.tmp 4) rfl (w.heap.size + 1) 0 rfl U _ (row_range (show Row _ (w.heap.size + 1) 30 U from R1.out)) Try.underlying30 rfl hzU.out ?_; refine hK _ _ ?_; clear hK)
        | (go_at_call 7; have _t := tok2; refine (hl2.out _ (hu.later hbw4)).mono ?_; rintro e w5 ⟨rfl, hb5⟩; have r0 := r0.later hb5 r0.lt; have r1 := r1.later hb5 r1.lt; have hbw5 := hbw4.trans (hb5.mono hbw4.size); have R0 := Lib.hid (show w5.heap[w.heap.size]? = some (.cells V.toArray 30 (0, 0)) from r0); have R1 := Lib.hid (show w5.heap[w.heap.size + 1]? = some (.cells U.toArray 30 (0, 0)) from r1); clear hb5 tok2))
    go_ret
    exact ⟨rfl, hbw5⟩
  cases hc : checkB a with
  | true => exact btells_1 ha hfa hb hfb h1 h2 D e0 l hq g1 g2 g3 hc
  | false => exact btells_0 ha hfa hb hfb h1 h2 D e0 l hq g1 g2 g3 hc
end Go.Proofs.Ythiebbhooigogaa

namespace Go.Proofs.Ythiebbhooigogaa.bundleTells
open Go.ChangeShapes Go.WideShapes Go.ChangeAt Go.RowKit

set_option maxRecDepth 100000 in
theorem contract (H : Type) (enc : TypeId × Value → H) (W : World) (base : Nat) (args : Array Value) (ds gs : List (DataW H)) (before : List MemPlace)
    (hval : ∀ (j : Nat) t v, Try.f3.params[j]? = some t → args[j]? = some v → Value.okWide Try.prog W .any base t v)
    (hW : DataW.Whole enc Try.prog Try.f3.params.toList Rows.bundleTellsSpec.vars false W args.toList ds gs before) (hsz0 : (DataW.weightsEach Try.prog (Try.f3.params.toList ++ (OpenSpec.ofChange Rows.bundleTellsSpec).bare.plain.varTypes Try.prog) (ds ++ gs)).all (· ≤ reachBytes) = true) :
    Calls Try.prog 3 args W fun e W' => ∃ v, e = .returned v ∧ Rows.bundleTellsSpec.post enc Try.prog Try.f3 false true false false W args v W' := by
  have hW' := hW
  obtain ⟨p, q, hA0, hV, rfl, hfz, hnd⟩ := hW
  have hA : DataW.TrodAll enc Try.prog W 0 (fun _ => true) true Try.f3.params.toList args.toList ds p := hA0
  rw [Try.params3] at hA hval hsz0
  obtain ⟨v0, vs0, d0, ds0, p0, q0, hargs, rfl, rfl, h0, r0⟩ := trodAll_cons hA
  obtain ⟨v1, vs1, d1, ds1, p1, q1, rfl, rfl, rfl, h1, r1⟩ := trodAll_cons r0
  obtain ⟨v2, vs2, d2, ds2, p2, q2, rfl, rfl, rfl, h2, r2⟩ := trodAll_cons r1
  obtain ⟨rfl, rfl, rfl⟩ := trodAll_nil r2
  obtain rfl : args = #[v0, v1, v2] := by cases args; simp_all
  obtain ⟨rfl, rfl⟩ := trodVars_none hV
  have k0 := h0
  have lt0 : ∀ x ∈ p0, x.block < W.heap.size := by obtain ⟨m, hm⟩ := k0; exact DataW.trod_lt m _ _ _ hm
  have k1 := h1
  have lt1 : ∀ x ∈ p1, x.block < W.heap.size := by obtain ⟨m, hm⟩ := k1; exact DataW.trod_lt m _ _ _ hm
  have k2 := h2
  have lt2 : ∀ x ∈ p2, x.block < W.heap.size := by obtain ⟨m, hm⟩ := k2; exact DataW.trod_lt m _ _ _ hm
  obtain ⟨u0, bok0, bfit0, bv0⟩ := open_bunArg (hval 0 30 v0 rfl rfl) k0 hsz0 (j := 0) rfl rfl
  obtain ⟨u1, bok1, bfit1, bv1⟩ := open_bunArg (hval 1 30 v1 rfl rfl) k1 hsz0 (j := 1) rfl rfl
  obtain ⟨A2, len2, c2, rfl⟩ := okWide_slice Try.underlying31 (hval 2 31 v2 rfl rfl)
  obtain ⟨l2, rfl, sl2, lm2⟩ := open_byteSlice h2
  refine (btells_walk bok0 bfit0 bok1 bfit1 bv0 bv1 A2 c2 l2 sl2 lm2).mono fun e W' ⟨he, bel⟩ => ?_
  subst he
  exact ⟨_, rfl, _, _, _, [], _, [], hW', trodAll_mk1 (shut_bool Try.underlying4 _), (trodAll_cons_mk (Below.trod laidOut (by kernel_rfl) (of_decide_eq_true (by kernel_rfl)) k0 bel lt0) (trodAll_cons_mk (Below.trod laidOut (by kernel_rfl) (of_decide_eq_true (by kernel_rfl)) k1 bel lt1) (trodAll_cons_mk (Below.trod laidOut (by kernel_rfl) (of_decide_eq_true (by kernel_rfl)) k2 bel lt2) trodAll_mk0))), rfl, bel.frame _, fun h => by cases h⟩
theorem reads (os : Os) {H : Type} (enc : TypeId × Value → H) : ∃ places, DataW.whole enc Try.prog ((bareWorld os).forCall (fun _ _ => 0) ⟨#[], #[zBunV, zBunV, .slice none 0 0], []⟩).memory Try.f3.params.toList Rows.bundleTellsSpec.vars false (#[zBunV, zBunV, .slice none 0 0] : Array Value).toList 8 = some ([zBunD, zBunD, .nil], [], places) :=
  ⟨[], by kernel_rfl⟩
set_option maxRecDepth 100000 in
theorem lifted (os : Os) (started : os.Started) (H : Type) (enc : TypeId × Value → H) (F : Stop.Interp) :
    ReturnsInHanded {} Try.checked os 3 .any ((OpenSpec.ofChange Rows.bundleTellsSpec).preRow enc Try.prog Try.f3 Rows.bundleTellsRow.domain false Rows.bundleTellsRow.laid) (((OpenSpec.ofChange Rows.bundleTellsSpec).at F).post enc Try.prog Try.f3 false true false false) := by
  obtain ⟨places, hx⟩ := reads os enc
  refine returnsInHanded_of_row (C := Try.checked) (s := OpenSpec.ofChange Rows.bundleTellsSpec) own started (by kernel_rfl) Try.func3
    (witness_row_at (enc := enc) (C := Try.checked) false (bareWorld os) #[zBunV, zBunV, .slice none 0 0] rfl (by kernel_rfl) (by kernel_rfl) (by kernel_rfl)
      (OpenSpec.preRow_of_cond 8 hx (by kernel_rfl) (fun k hk => by cases hk) (by kernel_rfl) (laidMet_nil _ _))) ?_
  intro W base args ds gs before hval hW _ _ hsz _ _ _
  exact contract H enc W base args ds gs before hval hW hsz
theorem said : Rows.BundleTellsSaid :=
  OpenClaim.holds_of_cond 3 Try.f3 rfl rfl rfl rfl rfl rfl rfl ⟨rfl, rfl, rfl, rfl, rfl⟩ rfl rfl rfl rfl rfl (by kernel_rfl) Try.func3 (by kernel_rfl)
    (of_decide_eq_true (by kernel_rfl)) (by unfold Func.isWrapper; first | (rw [if_pos (by decide +kernel)]; kernel_rfl) | (rw [if_neg (by decide +kernel)]; exact ⟨rfl, rfl⟩))
    (fun os started H enc _ F => by rw [OpenClaim.pre_eq_preRow]; exact lifted os started H enc F)
end Go.Proofs.Ythiebbhooigogaa.bundleTells
