/- Texts of this claim, one behind the other. -/
import Derived.Test.YthiebbhooigogaaGUb
/- LAYER 11, BundleBack: the walk where the first bundle has bytes, and the second hasn't; the bytes are none's. -/
namespace Go.Proofs.Ythiebbhooigogaa
open Go Go.RowKit

set_option maxRecDepth 100000 in
set_option maxHeartbeats 4000000 in
theorem bback_100 {a b : Bun} {w : World} {v u : Value} (ha : a.Ok) (hfa : a.Fit) (hb : b.Ok) (hfb : b.Fit) (h1 : BunV 0 a w v) (h2 : BunV 0 b w u) (D : Option Addr) (e0 : Nat) (l : List UInt8) (hq : Sl w D e0 (byts l))
    (g1 : largeB a = false) (g2 : largeB b = false) (g3 : ¬ 70000 < l.length) (hct : (errB a == 0) = true) (hcu : (errB b == 0) = false) (hO : (errD l == 0) = false) :
    Calls Try.prog 4 #[v, u, .slice D l.length e0] w fun e w' => e = .returned (.bool true) ∧ Below w.heap.size w w' := by
  obtain ⟨V, rfl, hVl, _, hv⟩ := h1.cells ha
  obtain ⟨U, rfl, hUl, _, hu⟩ := h2.cells hb
  have hzV := Lib.hid (show (Try.prog.info? 30).map (·.size) = some V.length by rw [size_bun, hVl])
  have hzVa := Lib.hid (show (Try.prog.info? 30).map (·.size) = some V.toArray.size by rw [size_bun, List.size_toArray, hVl])
  have hzU := Lib.hid (show (Try.prog.info? 30).map (·.size) = some U.length by rw [size_bun, hUl])
  have hzUa := Lib.hid (show (Try.prog.info? 30).map (·.size) = some U.toArray.size by rw [size_bun, List.size_toArray, hUl])
  have hl1 := Lib.hid (fun w' (h : BunV 0 a w' (.agg V.toArray)) => rlarge_v ha hfa h)
  have hl2 := Lib.hid (fun w' (h : BunV 0 b w' (.agg U.toArray)) => rlarge_v hb hfb h)
  obtain ⟨r0, r1, hbw1, _⟩ := two_rows (w := w) (A := V) (B := U) (tA := 30) (tB := 30) rfl
  have tok1 : True := trivial
  have tok2 : True := trivial
  have tok3 : True := trivial
  have tok4 : True := trivial
  have tok5 : True := trivial
  have tok6 : True := trivial
  have tok7 : True := trivial
  have hsa := small_len ha (small_of g1)
  have hsb := small_len hb (small_of g2)
  have hea := Lib.hid (fun w' (h : BunV 0 a w' (.agg V.toArray)) => benc_v ha hfa hsa.2.2 h)
  have heb := Lib.hid (fun w' (h : BunV 0 b w' (.agg U.toArray)) => benc_v hb hfb hsb.2.2 h)
  obtain ⟨E, hE⟩ : ∃ E, E = encB a := ⟨_, rfl⟩
  obtain ⟨G, hG⟩ : ∃ G, G = encB b := ⟨_, rfl⟩
  obtain ⟨e1, he1⟩ : ∃ e1, e1 = errB a := ⟨_, rfl⟩
  obtain ⟨e2, he2⟩ : ∃ e2, e2 = errB b := ⟨_, rfl⟩
  rw [← hE, ← he1] at hea
  rw [← hG, ← he2] at heb
  rw [← he1] at hct
  have hca := errB_zero (show errB a = 0 by rw [← he1]; exact beq_iff_eq.1 hct)
  have hEb : E = bytesB a := by rw [hE]; exact hca.2.1
  have hEl : (E.length : Int) ≤ 65536 := by rw [hEb]; have := hca.2.2; omega
  have hda := Lib.hid (show ∀ w' B6 d6, Sl w' B6 d6 (byts E) → Calls Try.prog 10 #[.slice B6 E.length d6] w' fun e w'' => ∃ v, e = .returned (.tuple #[v, .int .i64 0]) ∧ BunV (w'.heap.size + 1) a w'' v ∧ Below w'.heap.size w' w'' from fun w' B6 d6 h => by
    have h3 := bdec_any B6 E.length d6 E w' h rfl (by omega)
    have h4 := errD_bytes ha hca.1 hca.2.2
    rw [hEb, h4.1, h4.2] at h3; rw [hEb]; exact h3)
  have hss := Lib.hid (show ∀ lo w' v', BunV lo a w' v' → BunV 0 a w' (.agg V.toArray) → Calls Try.prog 15 #[v', .agg V.toArray] w' fun e w'' => e = .returned (.bool true) ∧ Below w'.heap.size w' w'' from fun lo w' v' p q => by
    have h := bsame_v ha ha hfa p q
    rw [decide_eq_true rfl] at h; exact h)
  obtain rfl : e1 = 0 := beq_iff_eq.1 hct
  rw [← he2] at hcu
  clear hca hEb
  have hdl := Lib.hid (fun w' h => bdec_any D l.length e0 l w' h rfl (by omega))
  have hXok := bunD_ok l
  have hXfit := bunD_fit l (by omega)
  have hXm := bunD_len l (by omega)
  obtain ⟨ed, hed⟩ : ∃ ed, ed = errD l := ⟨_, rfl⟩
  rw [← hed] at hdl hO
  obtain ⟨X, hX⟩ : ∃ X, X = bunD l := ⟨_, rfl⟩
  rw [← hX] at hdl hXok hXfit hXm
  obtain ⟨Z, hZ⟩ : ∃ Z, Z = encB X := ⟨_, rfl⟩
  have hX0 : X = zeroB := by rw [hX]; exact errD_none l (by rw [← hed]; exact fun h => by rw [h] at hO; cases hO)
  obtain ⟨eX, heXq⟩ : ∃ e, e = errB X := ⟨_, rfl⟩
  have heX := Lib.hid (show ∀ lo w' v', BunV lo X w' v' → Calls Try.prog 8 #[v'] w' fun e w'' => ∃ B d, e = .returned (.tuple #[.slice B Z.length d, .int .i64 eX]) ∧ Sl w'' B d (byts Z) ∧ Below w'.heap.size w' w'' from fun lo w' v' h => by
    have h3 := benc_v hXok hXfit hXm h
    rw [← heXq, ← hZ] at h3; exact h3)
  have hsX := Lib.hid (show ∀ lo w1 v, BunV lo X w1 v → Calls Try.prog 15 #[v, .agg #[Value.int .u64 0, .string { data := #[] }, .slice none 0 0, .bool false, .int .u8 0, .int .u8 0, .int .u8 0, .int .u8 0, .int .u8 0, .int .u8 0, .int .u8 0, .int .u8 0, .int .u8 0, .int .u8 0, .int .u8 0, .int .u8 0, .int .u8 0, .int .u8 0, .int .u8 0, .int .u8 0, .int .u8 0, .int .u8 0, .int .u8 0, .int .u8 0, .int .u8 0, .int .u8 0, .int .u8 0, .int .u8 0, .int .u8 0, .int .u8 0, .int .u8 0, .int .u8 0, .int .u8 0, .int .u8 0, .int .u8 0, .int .u8 0, .slice none 0 0]] w1 fun e w' => e = .returned (.bool true) ∧ Below w1.heap.size w1 w' from fun lo w1 v h => by
    have h3 := bsame_v hXok zeroB_ok hXfit h (BunV.zeroA 0 w1)
    rw [decide_eq_true hX0] at h3; exact h3)
  have hO2 : (ed != 0) = true := by rw [bne, hO]; rfl
  clear hX0 heXq
  rw [if_neg (by rw [g1]; exact Bool.false_ne_true)] at hl1
  rw [if_neg (by rw [g2]; exact Bool.false_ne_true)] at hl2
  have g3' : (l.length : Int) ≤ 70000 := by omega
  clear hVl hUl h1 h2 hfa hb hfb g1 g2 g3 hsa hsb hE hG he1 he2 hXfit hXm hed hX hZ 
  clear hct
  go_enter Try.func4, Try.ntmps4
  go_wp2_with (first
      | (go_at_call 6; refine (balive_any _).mono ?_; rintro e w3 ⟨rfl, hb3⟩; have r0 := r0.later hb3 r0.lt; have r1 := r1.later hb3 r1.lt; have hbw3 := hbw1.trans (hb3.mono hbw1.size); have R0 := Lib.hid (show w3.heap[w.heap.size]? = some (.cells V.toArray 30 (0, 0)) from r0); have R1 := Lib.hid (show w3.heap[w.heap.size + 1]? = some (.cells U.toArray 30 (0, 0)) from r1); clear hb3)
      | (with_reducible refine wpList_load_row rfl 30 (.tmp 3) rfl w.heap.size rfl 30 V.toArray (0, 0) _ R0.out Try.underlying30 rfl hzVa.out ?_)
      | (go_at_call 7; have _t := tok1; refine (hl1.out _ (hv.later hbw3)).mono ?_; rintro e w4 ⟨rfl, hb4⟩; have r0 := r0.later hb4 r0.lt; have r1 := r1.later hb4 r1.lt; have hbw4 := hbw3.trans (hb4.mono hbw3.size); have R0 := Lib.hid (show w4.heap[w.heap.size]? = some (.cells V.toArray 30 (0, 0)) from r0); have R1 := Lib.hid (show w4.heap[w.heap.size + 1]? = some (.cells U.toArray 30 (0, 0)) from r1); clear hb4 tok1)
      | (refine wpList_step fun K hK => ?_; refine step_load_mid (some 23) rfl (by rfl) 30 (.tmp 4) rfl (w.heap.size + 1) 0 rfl U _ (row_range (show Row _ (w.heap.size + 1) 30 U from R1.out)) Try.underlying30 rfl hzU.out ?_; refine hK _ _ ?_; clear hK)
      | (go_at_call 7; have _t := tok2; refine (hl2.out _ (hu.later hbw4)).mono ?_; rintro e w5 ⟨rfl, hb5⟩; have r0 := r0.later hb5 r0.lt; have r1 := r1.later hb5 r1.lt; have hbw5 := hbw4.trans (hb5.mono hbw4.size); have R0 := Lib.hid (show w5.heap[w.heap.size]? = some (.cells V.toArray 30 (0, 0)) from r0); have R1 := Lib.hid (show w5.heap[w.heap.size + 1]? = some (.cells U.toArray 30 (0, 0)) from r1); clear hb5 tok2)
      | (go_at_call 8; have _t := tok3; refine (hea.out _ (hv.later hbw5)).mono ?_; rintro e w6 ⟨B6, d6, rfl, hsl6, hb6⟩; have r0 := r0.later hb6 r0.lt; have r1 := r1.later hb6 r1.lt; have hbw6 := hbw5.trans (hb6.mono hbw5.size); have R0 := Lib.hid (show w6.heap[w.heap.size]? = some (.cells V.toArray 30 (0, 0)) from r0); have R1 := Lib.hid (show w6.heap[w.heap.size + 1]? = some (.cells U.toArray 30 (0, 0)) from r1); clear hb6 tok3)
      | (with_reducible refine wpList_load_row rfl 30 (.tmp 4) rfl (w.heap.size + 1) rfl 30 U.toArray (0, 0) _ R1.out Try.underlying30 rfl hzUa.out ?_)
      | (go_at_call 8; have _t := tok4; refine (heb.out _ (hu.later hbw6)).mono ?_; rintro e w7 ⟨B7, d7, rfl, hsl7, hb7⟩; have hsl6 := hsl6.later (Nat.le_refl _) hb7; have r0 := r0.later hb7 r0.lt; have r1 := r1.later hb7 r1.lt; have hbw7 := hbw6.trans (hb7.mono hbw6.size); have R0 := Lib.hid (show w7.heap[w.heap.size]? = some (.cells V.toArray 30 (0, 0)) from r0); have R1 := Lib.hid (show w7.heap[w.heap.size + 1]? = some (.cells U.toArray 30 (0, 0)) from r1); clear hb7 tok4)
      | (go_at_call 10; have _t := tok5; refine (hda.out _ _ _ hsl6).mono ?_; rintro e w8 ⟨v8, rfl, hv8, hb8⟩; obtain ⟨V8, rfl, hlV8, hoV8, _⟩ := hv8.cells ha; have hzV8 := Lib.hid (show (Try.prog.info? 30).map (·.size) = some V8.toArray.size by rw [size_bun, List.size_toArray, hlV8]); have hzlV8 := Lib.hid (show (Try.prog.info? 30).map (·.size) = some V8.length by rw [size_bun, hlV8]); have h37V8 := Lib.hid (show 37 = V8.toArray.size by rw [List.size_toArray, hlV8]); have honeV8 := Lib.hid (all_one hoV8); clear hlV8 hoV8; have hsl6 := hsl6.later (Nat.le_refl _) hb8; have hsl7 := hsl7.later (Nat.le_refl _) hb8; have r0 := r0.later hb8 r0.lt; have r1 := r1.later hb8 r1.lt; have hbw8 := hbw7.trans (hb8.mono hbw7.size); have R0 := Lib.hid (show w8.heap[w.heap.size]? = some (.cells V.toArray 30 (0, 0)) from r0); have R1 := Lib.hid (show w8.heap[w.heap.size + 1]? = some (.cells U.toArray 30 (0, 0)) from r1); clear hb8 tok5)
      | (with_reducible refine wpList_store_row rfl 30 (.tmp 11) (.tmp 47) rfl w8.heap.size V8.toArray rfl rfl 30 _ (heap_alloc_new w8 _) hzV8.out (Eq.trans (by kernel_rfl) h37V8.out) honeV8.out ?_; refine Hid.out ?_))
  refine Lib.hid ?_
  generalize hw9 : World.setRow _ _ _ = w9
  obtain ⟨r8, hb9⟩ := row_new_set (xs := V8) hw9
  have r0 := r0.later hb9 r0.lt
  have r1 := r1.later hb9 r1.lt
  have hbw9 := hbw8.trans (hb9.mono hbw8.size)
  have R0 := Lib.hid (show w9.heap[w.heap.size]? = some (.cells V.toArray 30 (0, 0)) from r0)
  have R1 := Lib.hid (show w9.heap[w.heap.size + 1]? = some (.cells U.toArray 30 (0, 0)) from r1)
  have hsl6 := hsl6.later (Nat.le_refl _) hb9
  have hsl7 := hsl7.later (Nat.le_refl _) hb9
  have hv8 := hv8.later hb9
  have R8 := Lib.hid (show w9.heap[w8.heap.size]? = some (.cells V8.toArray 30 (0, 0)) from r8)
  clear hw9 hb9
  generalize w8.heap.size = g8 at *
  clear ha
  go_wp2_with (first
      | (refine wpList_step fun K hK => ?_; refine step_load_mid (some 52) rfl (by rfl) 30 (.tmp 11) rfl (g8) 0 rfl V8 _ (row_range (show Row _ (g8) 30 V8 from R8.out)) Try.underlying30 rfl hzlV8.out ?_; refine hK _ _ ?_; clear hK)
      | (refine wpList_step fun K hK => ?_; refine step_load_mid (some 53) rfl (by rfl) 30 (.tmp 3) rfl (w.heap.size) 0 rfl V _ (row_range (show Row _ (w.heap.size) 30 V from R0.out)) Try.underlying30 rfl hzV.out ?_; refine hK _ _ ?_; clear hK)
      | (go_at_call 15; have _t := tok6; refine (hss.out _ _ _ (hv8.later (Below.refl _ _)) (hv.later hbw9)).mono ?_; rintro e w10 ⟨rfl, hb10⟩; have hsl6 := hsl6.later (Nat.le_refl _) hb10; have hsl7 := hsl7.later (Nat.le_refl _) hb10; have r0 := r0.later hb10 r0.lt; have r1 := r1.later hb10 r1.lt; have hbw10 := hbw9.trans (hb10.mono hbw9.size); have R0 := Lib.hid (show w10.heap[w.heap.size]? = some (.cells V.toArray 30 (0, 0)) from r0); have R1 := Lib.hid (show w10.heap[w.heap.size + 1]? = some (.cells U.toArray 30 (0, 0)) from r1); clear hb10 tok6))
  refine wp_region_noPanic ?_
  refine wp_region_held_drew (S := fun w' => Below w10.heap.size w10 w') (by kernel_rfl) ((Below.refl _ _).drew) (fun hHeld => ?_)
  have hB := hHeld
  refine rtake 0 _ (some 62) _ rfl rfl (by kernel_rfl) (by kernel_rfl) (by kernel_rfl) (fun _ _ _ h => h) (by rfl) hHeld (by intro w hS; go_simp; try with_reducible rfl) ?_
  try (first | (rw [put_some]; dsimp only [List.set]) | rw [put_none])
  refine rtake 1 _ (some 63) _ rfl rfl (by kernel_rfl) (by kernel_rfl) (by kernel_rfl) (fun _ _ _ h => h) (by rfl) hHeld (by intro w hS; go_simp; try with_reducible rfl) ?_
  try (first | (rw [put_some]; dsimp only [List.set]) | rw [put_none])
  refine rtake 2 _ (some 64) _ rfl rfl (by kernel_rfl) (by kernel_rfl) (by kernel_rfl) (fun _ _ _ h => h) (by rfl) hHeld (by intro w hS; go_simp; try with_reducible rfl) ?_
  try (first | (rw [put_some]; dsimp only [List.set]) | rw [put_none])
  refine rtake 3 _ (some 65) _ rfl rfl (by kernel_rfl) (by kernel_rfl) (by kernel_rfl) (fun _ _ _ h => h) (by rfl) hHeld (by intro w hS; go_simp; try with_reducible rfl) ?_
  try (first | (rw [put_some]; dsimp only [List.set]) | rw [put_none])
  refine rtake 4 _ (some 66) _ rfl rfl (by kernel_rfl) (by kernel_rfl) (by kernel_rfl) (fun _ _ _ h => h) (by rfl) hHeld (by intro w hS; go_simp; try with_reducible rfl) ?_
  try (first | (rw [put_some]; dsimp only [List.set]) | rw [put_none])
  refine rtake 5 _ (some 67) _ rfl rfl (by kernel_rfl) (by kernel_rfl) (by kernel_rfl) (fun _ _ _ h => h) (by rfl) hHeld (by intro w hS; go_simp; try with_reducible rfl) ?_
  try (first | (rw [put_some]; dsimp only [List.set]) | rw [put_none])
  refine rtake 6 _ (some 68) _ rfl rfl (by kernel_rfl) (by kernel_rfl) (by kernel_rfl) (fun _ _ _ h => h) (by rfl) hHeld (by intro w hS; go_simp; try with_reducible rfl) ?_
  try (first | (rw [put_some]; dsimp only [List.set]) | rw [put_none])
  refine rskip 7 _ (some 69) rfl rfl (by kernel_rfl) (by kernel_rfl) (by kernel_rfl) (fun _ _ _ h => h) (by rfl) hHeld ?_
  try (first | (rw [put_some]; dsimp only [List.set]) | rw [put_none])
  refine rskip 8 _ (some 70) rfl rfl (by kernel_rfl) (by kernel_rfl) (by kernel_rfl) (fun _ _ _ h => h) (by rfl) hHeld ?_
  try (first | (rw [put_some]; dsimp only [List.set]) | rw [put_none])
  refine rskip 9 _ (some 71) rfl rfl (by kernel_rfl) (by kernel_rfl) (by kernel_rfl) (fun _ _ _ h => h) (by rfl) hHeld ?_
  try (first | (rw [put_some]; dsimp only [List.set]) | rw [put_none])
  refine rskip 10 _ (some 72) rfl rfl (by kernel_rfl) (by kernel_rfl) (by kernel_rfl) (fun _ _ _ h => h) (by rfl) hHeld ?_
  try (first | (rw [put_some]; dsimp only [List.set]) | rw [put_none])
  refine rskip 11 _ (some 73) rfl rfl (by kernel_rfl) (by kernel_rfl) (by kernel_rfl) (fun _ _ _ h => h) (by rfl) hHeld ?_
  try (first | (rw [put_some]; dsimp only [List.set]) | rw [put_none])
  refine rskip 12 _ (some 74) rfl rfl (by kernel_rfl) (by kernel_rfl) (by kernel_rfl) (fun _ _ _ h => h) (by rfl) hHeld ?_
  try (first | (rw [put_some]; dsimp only [List.set]) | rw [put_none])
  refine rskip 13 _ (some 75) rfl rfl (by kernel_rfl) (by kernel_rfl) (by kernel_rfl) (fun _ _ _ h => h) (by rfl) hHeld ?_
  try (first | (rw [put_some]; dsimp only [List.set]) | rw [put_none])
  refine rskip 14 _ (some 76) rfl rfl (by kernel_rfl) (by kernel_rfl) (by kernel_rfl) (fun _ _ _ h => h) (by rfl) hHeld ?_
  try (first | (rw [put_some]; dsimp only [List.set]) | rw [put_none])
  refine rskip 15 _ (some 77) rfl rfl (by kernel_rfl) (by kernel_rfl) (by kernel_rfl) (fun _ _ _ h => h) (by rfl) hHeld ?_
  try (first | (rw [put_some]; dsimp only [List.set]) | rw [put_none])
  refine rtake 16 _ (some 78) _ rfl rfl (by kernel_rfl) (by kernel_rfl) (by kernel_rfl) (fun _ _ _ h => h) (by rfl) hHeld (by intro w hS; go_simp; try with_reducible rfl) ?_
  try (first | (rw [put_some]; dsimp only [List.set]) | rw [put_none])
  refine wpAnyH_done (by kernel_rfl) ?_ _
  refine NoPanic.normal ?_
  have hbwN := hbw10.trans (hB.mono hbw10.size)
  clear hHeld hB
  generalize World.drew w10 = wN at *
  go_wp2_with (first
      | (go_at_call 10; have _t := tok7; refine (hdl.out _ (hq.later (Nat.le_refl _) hbwN)).mono ?_; rintro e wD ⟨vD, rfl, hvD, hbD⟩; obtain ⟨VX, rfl, hlVX, hoVX, _⟩ := hvD.cells hXok; have hzVX := Lib.hid (show (Try.prog.info? 30).map (·.size) = some VX.toArray.size by rw [size_bun, List.size_toArray, hlVX]); have hzlVX := Lib.hid (show (Try.prog.info? 30).map (·.size) = some VX.length by rw [size_bun, hlVX]); have h37VX := Lib.hid (show 37 = VX.toArray.size by rw [List.size_toArray, hlVX]); have honeVX := Lib.hid (all_one hoVX); clear hlVX hoVX; have hbwD := hbwN.trans (hbD.mono hbwN.size); clear hbD tok7)
      | (with_reducible refine wpList_store_row rfl 30 (.tmp 13) (.tmp 82) rfl wD.heap.size VX.toArray rfl rfl 30 _ (heap_alloc_new wD _) hzVX.out (Eq.trans (by kernel_rfl) h37VX.out) honeVX.out ?_; refine Hid.out ?_))
  refine Lib.hid ?_
  generalize hwF : World.setRow _ _ _ = wF
  obtain ⟨rF, hbF⟩ := row_new_set (xs := VX) hwF
  have hbwF := hbwD.trans (hbF.mono hbwD.size)
  have hvF := hvD.later hbF
  have RF := Lib.hid (show wF.heap[wD.heap.size]? = some (.cells VX.toArray 30 (0, 0)) from rF)
  clear hwF hbF hbwD hvD
  go_wp2_with (first
      | (with_reducible refine wpList_load_row rfl 30 (.tmp 13) rfl wD.heap.size rfl 30 VX.toArray (0, 0) _ RF.out Try.underlying30 rfl hzVX.out ?_)
      | (go_at_call 8; refine (heX.out _ _ _ hvF).mono ?_; rintro e wG ⟨BG, dG, rfl, hslG, hbG⟩; have hbwG := hbwF.trans (hbG.mono hbwF.size); have RG := Lib.hid (show wG.heap[wD.heap.size]? = some (.cells VX.toArray 30 (0, 0)) from rF.later hbG rF.lt); have hvG := hvF.later hbG)
      | (refine wpList_step fun K hK => ?_; refine step_load_mid (some 92) rfl (by rfl) 30 (.tmp 13) rfl (wD.heap.size) 0 rfl VX _ (row_range (show Row _ (wD.heap.size) 30 VX from RG.out)) Try.underlying30 rfl hzlVX.out ?_; refine hK _ _ ?_; clear hK)
      | (go_at_call 15; refine (hsX.out _ _ _ hvG).mono ?_; rintro e wH ⟨rfl, hbH⟩; have hbwH := hbwG.trans (hbH.mono hbwG.size)))
  go_ret
  exact ⟨rfl, hbwH⟩
end Go.Proofs.Ythiebbhooigogaa

/- LAYER 11, BundleBack: the walk where the first bundle has bytes, and the second hasn't; the bytes are a bundle's. -/
namespace Go.Proofs.Ythiebbhooigogaa
open Go Go.RowKit

set_option maxRecDepth 100000 in
set_option maxHeartbeats 4000000 in
theorem bback_101 {a b : Bun} {w : World} {v u : Value} (ha : a.Ok) (hfa : a.Fit) (hb : b.Ok) (hfb : b.Fit) (h1 : BunV 0 a w v) (h2 : BunV 0 b w u) (D : Option Addr) (e0 : Nat) (l : List UInt8) (hq : Sl w D e0 (byts l))
    (g1 : largeB a = false) (g2 : largeB b = false) (g3 : ¬ 70000 < l.length) (hct : (errB a == 0) = true) (hcu : (errB b == 0) = false) (hO : (errD l == 0) = true) :
    Calls Try.prog 4 #[v, u, .slice D l.length e0] w fun e w' => e = .returned (.bool true) ∧ Below w.heap.size w w' := by
  obtain ⟨V, rfl, hVl, _, hv⟩ := h1.cells ha
  obtain ⟨U, rfl, hUl, _, hu⟩ := h2.cells hb
  have hzV := Lib.hid (show (Try.prog.info? 30).map (·.size) = some V.length by rw [size_bun, hVl])
  have hzVa := Lib.hid (show (Try.prog.info? 30).map (·.size) = some V.toArray.size by rw [size_bun, List.size_toArray, hVl])
  have hzU := Lib.hid (show (Try.prog.info? 30).map (·.size) = some U.length by rw [size_bun, hUl])
  have hzUa := Lib.hid (show (Try.prog.info? 30).map (·.size) = some U.toArray.size by rw [size_bun, List.size_toArray, hUl])
  have hl1 := Lib.hid (fun w' (h : BunV 0 a w' (.agg V.toArray)) => rlarge_v ha hfa h)
  have hl2 := Lib.hid (fun w' (h : BunV 0 b w' (.agg U.toArray)) => rlarge_v hb hfb h)
  obtain ⟨r0, r1, hbw1, _⟩ := two_rows (w := w) (A := V) (B := U) (tA := 30) (tB := 30) rfl
  have tok1 : True := trivial
  have tok2 : True := trivial
  have tok3 : True := trivial
  have tok4 : True := trivial
  have tok5 : True := trivial
  have tok6 : True := trivial
  have tok7 : True := trivial
  have hsa := small_len ha (small_of g1)
  have hsb := small_len hb (small_of g2)
  have hea := Lib.hid (fun w' (h : BunV 0 a w' (.agg V.toArray)) => benc_v ha hfa hsa.2.2 h)
  have heb := Lib.hid (fun w' (h : BunV 0 b w' (.agg U.toArray)) => benc_v hb hfb hsb.2.2 h)
  obtain ⟨E, hE⟩ : ∃ E, E = encB a := ⟨_, rfl⟩
  obtain ⟨G, hG⟩ : ∃ G, G = encB b := ⟨_, rfl⟩
  obtain ⟨e1, he1⟩ : ∃ e1, e1 = errB a := ⟨_, rfl⟩
  obtain ⟨e2, he2⟩ : ∃ e2, e2 = errB b := ⟨_, rfl⟩
  rw [← hE, ← he1] at hea
  rw [← hG, ← he2] at heb
  rw [← he1] at hct
  have hca := errB_zero (show errB a = 0 by rw [← he1]; exact beq_iff_eq.1 hct)
  have hEb : E = bytesB a := by rw [hE]; exact hca.2.1
  have hEl : (E.length : Int) ≤ 65536 := by rw [hEb]; have := hca.2.2; omega
  have hda := Lib.hid (show ∀ w' B6 d6, Sl w' B6 d6 (byts E) → Calls Try.prog 10 #[.slice B6 E.length d6] w' fun e w'' => ∃ v, e = .returned (.tuple #[v, .int .i64 0]) ∧ BunV (w'.heap.size + 1) a w'' v ∧ Below w'.heap.size w' w'' from fun w' B6 d6 h => by
    have h3 := bdec_any B6 E.length d6 E w' h rfl (by omega)
    have h4 := errD_bytes ha hca.1 hca.2.2
    rw [hEb, h4.1, h4.2] at h3; rw [hEb]; exact h3)
  have hss := Lib.hid (show ∀ lo w' v', BunV lo a w' v' → BunV 0 a w' (.agg V.toArray) → Calls Try.prog 15 #[v', .agg V.toArray] w' fun e w'' => e = .returned (.bool true) ∧ Below w'.heap.size w' w'' from fun lo w' v' p q => by
    have h := bsame_v ha ha hfa p q
    rw [decide_eq_true rfl] at h; exact h)
  obtain rfl : e1 = 0 := beq_iff_eq.1 hct
  rw [← he2] at hcu
  clear hca hEb
  have hdl := Lib.hid (fun w' h => bdec_any D l.length e0 l w' h rfl (by omega))
  have hXok := bunD_ok l
  have hXfit := bunD_fit l (by omega)
  have hXm := bunD_len l (by omega)
  obtain ⟨ed, hed⟩ : ∃ ed, ed = errD l := ⟨_, rfl⟩
  rw [← hed] at hdl hO
  obtain ⟨X, hX⟩ : ∃ X, X = bunD l := ⟨_, rfl⟩
  rw [← hX] at hdl hXok hXfit hXm
  obtain ⟨Z, hZ⟩ : ∃ Z, Z = encB X := ⟨_, rfl⟩
  have hback := errD_back l (by rw [← hed]; exact beq_iff_eq.1 hO)
  obtain rfl : Z = l := by rw [hZ, hX]; exact hback.1
  obtain rfl : ed = 0 := beq_iff_eq.1 hO
  have heX := Lib.hid (show ∀ lo w' v', BunV lo X w' v' → Calls Try.prog 8 #[v'] w' fun e w'' => ∃ B d, e = .returned (.tuple #[.slice B Z.length d, .int .i64 0]) ∧ Sl w'' B d (byts Z) ∧ Below w'.heap.size w' w'' from fun lo w' v' h => by
    have h3 := benc_v hXok hXfit hXm h
    rw [show errB X = 0 by rw [hX]; exact hback.2, ← hZ] at h3; exact h3)
  clear hback
  rw [if_neg (by rw [g1]; exact Bool.false_ne_true)] at hl1
  rw [if_neg (by rw [g2]; exact Bool.false_ne_true)] at hl2
  have g3' : (Z.length : Int) ≤ 70000 := by omega
  clear hVl hUl h1 h2 hfa hb hfb g1 g2 g3 hsa hsb hE hG he1 he2 hXfit hXm hed hX hZ 
  clear hct
  clear hO
  go_enter Try.func4, Try.ntmps4
  go_wp2_with (first
      | (go_at_call 6; refine (balive_any _).mono ?_; rintro e w3 ⟨rfl, hb3⟩; have r0 := r0.later hb3 r0.lt; have r1 := r1.later hb3 r1.lt; have hbw3 := hbw1.trans (hb3.mono hbw1.size); have R0 := Lib.hid (show w3.heap[w.heap.size]? = some (.cells V.toArray 30 (0, 0)) from r0); have R1 := Lib.hid (show w3.heap[w.heap.size + 1]? = some (.cells U.toArray 30 (0, 0)) from r1); clear hb3)
      | (with_reducible refine wpList_load_row rfl 30 (.tmp 3) rfl w.heap.size rfl 30 V.toArray (0, 0) _ R0.out Try.underlying30 rfl hzVa.out ?_)
      | (go_at_call 7; have _t := tok1; refine (hl1.out _ (hv.later hbw3)).mono ?_; rintro e w4 ⟨rfl, hb4⟩; have r0 := r0.later hb4 r0.lt; have r1 := r1.later hb4 r1.lt; have hbw4 := hbw3.trans (hb4.mono hbw3.size); have R0 := Lib.hid (show w4.heap[w.heap.size]? = some (.cells V.toArray 30 (0, 0)) from r0); have R1 := Lib.hid (show w4.heap[w.heap.size + 1]? = some (.cells U.toArray 30 (0, 0)) from r1); clear hb4 tok1)
      | (refine wpList_step fun K hK => ?_; refine step_load_mid (some 23) rfl (by rfl) 30 (.tmp 4) rfl (w.heap.size + 1) 0 rfl U _ (row_range (show Row _ (w.heap.size + 1) 30 U from R1.out)) Try.underlying30 rfl hzU.out ?_; refine hK _ _ ?_; clear hK)
      | (go_at_call 7; have _t := tok2; refine (hl2.out _ (hu.later hbw4)).mono ?_; rintro e w5 ⟨rfl, hb5⟩; have r0 := r0.later hb5 r0.lt; have r1 := r1.later hb5 r1.lt; have hbw5 := hbw4.trans (hb5.mono hbw4.size); have R0 := Lib.hid (show w5.heap[w.heap.size]? = some (.cells V.toArray 30 (0, 0)) from r0); have R1 := Lib.hid (show w5.heap[w.heap.size + 1]? = some (.cells U.toArray 30 (0, 0)) from r1); clear hb5 tok2)
      | (go_at_call 8; have _t := tok3; refine (hea.out _ (hv.later hbw5)).mono ?_; rintro e w6 ⟨B6, d6, rfl, hsl6, hb6⟩; have r0 := r0.later hb6 r0.lt; have r1 := r1.later hb6 r1.lt; have hbw6 := hbw5.trans (hb6.mono hbw5.size); have R0 := Lib.hid (show w6.heap[w.heap.size]? = some (.cells V.toArray 30 (0, 0)) from r0); have R1 := Lib.hid (show w6.heap[w.heap.size + 1]? = some (.cells U.toArray 30 (0, 0)) from r1); clear hb6 tok3)
      | (with_reducible refine wpList_load_row rfl 30 (.tmp 4) rfl (w.heap.size + 1) rfl 30 U.toArray (0, 0) _ R1.out Try.underlying30 rfl hzUa.out ?_)
      | (go_at_call 8; have _t := tok4; refine (heb.out _ (hu.later hbw6)).mono ?_; rintro e w7 ⟨B7, d7, rfl, hsl7, hb7⟩; have hsl6 := hsl6.later (Nat.le_refl _) hb7; have r0 := r0.later hb7 r0.lt; have r1 := r1.later hb7 r1.lt; have hbw7 := hbw6.trans (hb7.mono hbw6.size); have R0 := Lib.hid (show w7.heap[w.heap.size]? = some (.cells V.toArray 30 (0, 0)) from r0); have R1 := Lib.hid (show w7.heap[w.heap.size + 1]? = some (.cells U.toArray 30 (0, 0)) from r1); clear hb7 tok4)
      | (go_at_call 10; have _t := tok5; refine (hda.out _ _ _ hsl6).mono ?_; rintro e w8 ⟨v8, rfl, hv8, hb8⟩; obtain ⟨V8, rfl, hlV8, hoV8, _⟩ := hv8.cells ha; have hzV8 := Lib.hid (show (Try.prog.info? 30).map (·.size) = some V8.toArray.size by rw [size_bun, List.size_toArray, hlV8]); have hzlV8 := Lib.hid (show (Try.prog.info? 30).map (·.size) = some V8.length by rw [size_bun, hlV8]); have h37V8 := Lib.hid (show 37 = V8.toArray.size by rw [List.size_toArray, hlV8]); have honeV8 := Lib.hid (all_one hoV8); clear hlV8 hoV8; have hsl6 := hsl6.later (Nat.le_refl _) hb8; have hsl7 := hsl7.later (Nat.le_refl _) hb8; have r0 := r0.later hb8 r0.lt; have r1 := r1.later hb8 r1.lt; have hbw8 := hbw7.trans (hb8.mono hbw7.size); have R0 := Lib.hid (show w8.heap[w.heap.size]? = some (.cells V.toArray 30 (0, 0)) from r0); have R1 := Lib.hid (show w8.heap[w.heap.size + 1]? = some (.cells U.toArray 30 (0, 0)) from r1); clear hb8 tok5)
      | (with_reducible refine wpList_store_row rfl 30 (.tmp 11) (.tmp 47) rfl w8.heap.size V8.toArray rfl rfl 30 _ (heap_alloc_new w8 _) hzV8.out (Eq.trans (by kernel_rfl) h37V8.out) honeV8.out ?_; refine Hid.out ?_))
  refine Lib.hid ?_
  generalize hw9 : World.setRow _ _ _ = w9
  obtain ⟨r8, hb9⟩ := row_new_set (xs := V8) hw9
  have r0 := r0.later hb9 r0.lt
  have r1 := r1.later hb9 r1.lt
  have hbw9 := hbw8.trans (hb9.mono hbw8.size)
  have R0 := Lib.hid (show w9.heap[w.heap.size]? = some (.cells V.toArray 30 (0, 0)) from r0)
  have R1 := Lib.hid (show w9.heap[w.heap.size + 1]? = some (.cells U.toArray 30 (0, 0)) from r1)
  have hsl6 := hsl6.later (Nat.le_refl _) hb9
  have hsl7 := hsl7.later (Nat.le_refl _) hb9
  have hv8 := hv8.later hb9
  have R8 := Lib.hid (show w9.heap[w8.heap.size]? = some (.cells V8.toArray 30 (0, 0)) from r8)
  clear hw9 hb9
  generalize w8.heap.size = g8 at *
  clear ha
  go_wp2_with (first
      | (refine wpList_step fun K hK => ?_; refine step_load_mid (some 52) rfl (by rfl) 30 (.tmp 11) rfl (g8) 0 rfl V8 _ (row_range (show Row _ (g8) 30 V8 from R8.out)) Try.underlying30 rfl hzlV8.out ?_; refine hK _ _ ?_; clear hK)
      | (refine wpList_step fun K hK => ?_; refine step_load_mid (some 53) rfl (by rfl) 30 (.tmp 3) rfl (w.heap.size) 0 rfl V _ (row_range (show Row _ (w.heap.size) 30 V from R0.out)) Try.underlying30 rfl hzV.out ?_; refine hK _ _ ?_; clear hK)
      | (go_at_call 15; have _t := tok6; refine (hss.out _ _ _ (hv8.later (Below.refl _ _)) (hv.later hbw9)).mono ?_; rintro e w10 ⟨rfl, hb10⟩; have hsl6 := hsl6.later (Nat.le_refl _) hb10; have hsl7 := hsl7.later (Nat.le_refl _) hb10; have r0 := r0.later hb10 r0.lt; have r1 := r1.later hb10 r1.lt; have hbw10 := hbw9.trans (hb10.mono hbw9.size); have R0 := Lib.hid (show w10.heap[w.heap.size]? = some (.cells V.toArray 30 (0, 0)) from r0); have R1 := Lib.hid (show w10.heap[w.heap.size + 1]? = some (.cells U.toArray 30 (0, 0)) from r1); clear hb10 tok6))
  refine wp_region_noPanic ?_
  refine wp_region_held_drew (S := fun w' => Below w10.heap.size w10 w') (by kernel_rfl) ((Below.refl _ _).drew) (fun hHeld => ?_)
  have hB := hHeld
  refine rtake 0 _ (some 62) _ rfl rfl (by kernel_rfl) (by kernel_rfl) (by kernel_rfl) (fun _ _ _ h => h) (by rfl) hHeld (by intro w hS; go_simp; try with_reducible rfl) ?_
  try (first | (rw [put_some]; dsimp only [List.set]) | rw [put_none])
  refine rtake 1 _ (some 63) _ rfl rfl (by kernel_rfl) (by kernel_rfl) (by kernel_rfl) (fun _ _ _ h => h) (by rfl) hHeld (by intro w hS; go_simp; try with_reducible rfl) ?_
  try (first | (rw [put_some]; dsimp only [List.set]) | rw [put_none])
  refine rtake 2 _ (some 64) _ rfl rfl (by kernel_rfl) (by kernel_rfl) (by kernel_rfl) (fun _ _ _ h => h) (by rfl) hHeld (by intro w hS; go_simp; try with_reducible rfl) ?_
  try (first | (rw [put_some]; dsimp only [List.set]) | rw [put_none])
  refine rtake 3 _ (some 65) _ rfl rfl (by kernel_rfl) (by kernel_rfl) (by kernel_rfl) (fun _ _ _ h => h) (by rfl) hHeld (by intro w hS; go_simp; try with_reducible rfl) ?_
  try (first | (rw [put_some]; dsimp only [List.set]) | rw [put_none])
  refine rtake 4 _ (some 66) _ rfl rfl (by kernel_rfl) (by kernel_rfl) (by kernel_rfl) (fun _ _ _ h => h) (by rfl) hHeld (by intro w hS; go_simp; try with_reducible rfl) ?_
  try (first | (rw [put_some]; dsimp only [List.set]) | rw [put_none])
  refine rtake 5 _ (some 67) _ rfl rfl (by kernel_rfl) (by kernel_rfl) (by kernel_rfl) (fun _ _ _ h => h) (by rfl) hHeld (by intro w hS; go_simp; try with_reducible rfl) ?_
  try (first | (rw [put_some]; dsimp only [List.set]) | rw [put_none])
  refine rtake 6 _ (some 68) _ rfl rfl (by kernel_rfl) (by kernel_rfl) (by kernel_rfl) (fun _ _ _ h => h) (by rfl) hHeld (by intro w hS; go_simp; try with_reducible rfl) ?_
  try (first | (rw [put_some]; dsimp only [List.set]) | rw [put_none])
  refine rskip 7 _ (some 69) rfl rfl (by kernel_rfl) (by kernel_rfl) (by kernel_rfl) (fun _ _ _ h => h) (by rfl) hHeld ?_
  try (first | (rw [put_some]; dsimp only [List.set]) | rw [put_none])
  refine rskip 8 _ (some 70) rfl rfl (by kernel_rfl) (by kernel_rfl) (by kernel_rfl) (fun _ _ _ h => h) (by rfl) hHeld ?_
  try (first | (rw [put_some]; dsimp only [List.set]) | rw [put_none])
  refine rskip 9 _ (some 71) rfl rfl (by kernel_rfl) (by kernel_rfl) (by kernel_rfl) (fun _ _ _ h => h) (by rfl) hHeld ?_
  try (first | (rw [put_some]; dsimp only [List.set]) | rw [put_none])
  refine rskip 10 _ (some 72) rfl rfl (by kernel_rfl) (by kernel_rfl) (by kernel_rfl) (fun _ _ _ h => h) (by rfl) hHeld ?_
  try (first | (rw [put_some]; dsimp only [List.set]) | rw [put_none])
  refine rskip 11 _ (some 73) rfl rfl (by kernel_rfl) (by kernel_rfl) (by kernel_rfl) (fun _ _ _ h => h) (by rfl) hHeld ?_
  try (first | (rw [put_some]; dsimp only [List.set]) | rw [put_none])
  refine rskip 12 _ (some 74) rfl rfl (by kernel_rfl) (by kernel_rfl) (by kernel_rfl) (fun _ _ _ h => h) (by rfl) hHeld ?_
  try (first | (rw [put_some]; dsimp only [List.set]) | rw [put_none])
  refine rskip 13 _ (some 75) rfl rfl (by kernel_rfl) (by kernel_rfl) (by kernel_rfl) (fun _ _ _ h => h) (by rfl) hHeld ?_
  try (first | (rw [put_some]; dsimp only [List.set]) | rw [put_none])
  refine rskip 14 _ (some 76) rfl rfl (by kernel_rfl) (by kernel_rfl) (by kernel_rfl) (fun _ _ _ h => h) (by rfl) hHeld ?_
  try (first | (rw [put_some]; dsimp only [List.set]) | rw [put_none])
  refine rskip 15 _ (some 77) rfl rfl (by kernel_rfl) (by kernel_rfl) (by kernel_rfl) (fun _ _ _ h => h) (by rfl) hHeld ?_
  try (first | (rw [put_some]; dsimp only [List.set]) | rw [put_none])
  refine rtake 16 _ (some 78) _ rfl rfl (by kernel_rfl) (by kernel_rfl) (by kernel_rfl) (fun _ _ _ h => h) (by rfl) hHeld (by intro w hS; go_simp; try with_reducible rfl) ?_
  try (first | (rw [put_some]; dsimp only [List.set]) | rw [put_none])
  refine wpAnyH_done (by kernel_rfl) ?_ _
  refine NoPanic.normal ?_
  have hbwN := hbw10.trans (hB.mono hbw10.size)
  clear hHeld hB
  generalize World.drew w10 = wN at *
  go_wp2_with (first
      | (go_at_call 10; have _t := tok7; refine (hdl.out _ (hq.later (Nat.le_refl _) hbwN)).mono ?_; rintro e wD ⟨vD, rfl, hvD, hbD⟩; obtain ⟨VX, rfl, hlVX, hoVX, _⟩ := hvD.cells hXok; have hzVX := Lib.hid (show (Try.prog.info? 30).map (·.size) = some VX.toArray.size by rw [size_bun, List.size_toArray, hlVX]); have hzlVX := Lib.hid (show (Try.prog.info? 30).map (·.size) = some VX.length by rw [size_bun, hlVX]); have h37VX := Lib.hid (show 37 = VX.toArray.size by rw [List.size_toArray, hlVX]); have honeVX := Lib.hid (all_one hoVX); clear hlVX hoVX; have hbwD := hbwN.trans (hbD.mono hbwN.size); clear hbD tok7)
      | (with_reducible refine wpList_store_row rfl 30 (.tmp 13) (.tmp 82) rfl wD.heap.size VX.toArray rfl rfl 30 _ (heap_alloc_new wD _) hzVX.out (Eq.trans (by kernel_rfl) h37VX.out) honeVX.out ?_; refine Hid.out ?_))
  refine Lib.hid ?_
  generalize hwF : World.setRow _ _ _ = wF
  obtain ⟨rF, hbF⟩ := row_new_set (xs := VX) hwF
  have hbwF := hbwD.trans (hbF.mono hbwD.size)
  have hvF := hvD.later hbF
  have RF := Lib.hid (show wF.heap[wD.heap.size]? = some (.cells VX.toArray 30 (0, 0)) from rF)
  clear hwF hbF hbwD hvD
  go_wp2_with (first
      | (with_reducible refine wpList_load_row rfl 30 (.tmp 13) rfl wD.heap.size rfl 30 VX.toArray (0, 0) _ RF.out Try.underlying30 rfl hzVX.out ?_)
      | (go_at_call 8; refine (heX.out _ _ _ hvF).mono ?_; rintro e wG ⟨BG, dG, rfl, hslG, hbG⟩; have hbwG := hbwF.trans (hbG.mono hbwF.size); have hcvG := conv_bytes hslG Z.length rfl; have hcvQ := conv_bytes (hq.later (Nat.le_refl _) hbwG) Z.length rfl))
  go_ret
  exact ⟨rfl, hbwG⟩
end Go.Proofs.Ythiebbhooigogaa
