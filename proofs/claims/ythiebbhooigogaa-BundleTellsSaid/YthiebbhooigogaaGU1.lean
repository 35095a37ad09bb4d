/- Texts of this claim, one behind the other. -/
import Derived.Test.YthiebbhooigogaaGO10
/- LAYER 11, BundleTells: the walk where the bundle can be. -/
namespace Go.Proofs.Ythiebbhooigogaa
open Go Go.RowKit

set_option maxRecDepth 100000 in
set_option maxHeartbeats 4000000 in
theorem btells_1 {a b : Bun} {w : World} {v u : Value} (ha : a.Ok) (hfa : a.Fit) (hb : b.Ok) (hfb : b.Fit) (h1 : BunV 0 a w v) (h2 : BunV 0 b w u) (D : Option Addr) (e0 : Nat) (l : List UInt8) (hq : Sl w D e0 (byts l))
    (g1 : largeB a = false) (g2 : largeB b = false) (g3 : ¬ 70000 < l.length) (hc : checkB a = true) :
    Calls Try.prog 3 #[v, u, .slice D l.length e0] w fun e w' => e = .returned (.bool true) ∧ Below w.heap.size w w' := by
  have hsm1 := small_of g1
  have hsz := small_len ha hsm1
  obtain ⟨A, c, B, d, ds, rfl, hofp⟩ := bof_v ha hsz.1 hsz.2.1 h1
  have hVl := length_bunV ha.root A c B ds.length d
  have hv := h1
  have htk := Lib.hid (fun w' g (r : Row w' g 30 (bunV a.root A c B ds.length d)) => (⟨row_bun_tok r, row_bun_dis ha.root r⟩ : _ ∧ _))
  have hlT := length_tokV ha.root A c
  obtain ⟨VT, hVT⟩ : ∃ V, V = tokV a.root A c := ⟨_, rfl⟩
  rw [← hVT] at hofp htk hlT
  have hzT := Lib.hid (show (Try.prog.info? 27).map (·.size) = some VT.length by rw [size_tok, hlT])
  have hof := Lib.hid hofp
  generalize bunV a.root A c B ds.length d = V at *
  generalize ds.length = n at *
  clear hVT hlT hofp
  obtain ⟨U, rfl, hUl, _, hu⟩ := h2.cells hb
  have hzV := Lib.hid (show (Try.prog.info? 30).map (·.size) = some V.length by rw [size_bun, hVl])
  have hzVa := Lib.hid (show (Try.prog.info? 30).map (·.size) = some V.toArray.size by rw [size_bun, List.size_toArray, hVl])
  have hzU := Lib.hid (show (Try.prog.info? 30).map (·.size) = some U.length by rw [size_bun, hUl])
  have hl1 := Lib.hid (fun w' (h : BunV 0 a w' (.agg V.toArray)) => rlarge_v ha hfa h)
  have hl2 := Lib.hid (fun w' (h : BunV 0 b w' (.agg U.toArray)) => rlarge_v hb hfb h)
  obtain ⟨r0, r1, hbw1, _⟩ := two_rows (w := w) (A := V) (B := U) (tA := 30) (tB := 30) rfl
  have tok1 : True := trivial
  have tok2 : True := trivial
  have hen := Lib.hid (fun w' (h : BunV 0 a w' (.agg V.toArray)) => benc_v ha hfa hsz.2.2 h)
  have hre := Lib.hid (fun w' (h : BunV 0 a w' (.agg V.toArray)) => rbenc_v ha hsz.2.2 h)
  generalize encB a = E at hen hre
  generalize errB a = er at hen hre
  have hck := Lib.hid (fun w' (h : BunV 0 a w' (.agg V.toArray)) => bcheck_v ha hfa h)
  have hrc := Lib.hid (fun w' (h : BunV 0 a w' (.agg V.toArray)) => rbcheck_v ha h)
  rw [hc] at hrc
  rw [show chkB a = 0 by unfold chkB; rw [hc]; rfl] at hck
  have hde := Lib.hid (fun w' h => bdec_any D l.length e0 l w' h rfl (by omega))
  have hrd := Lib.hid (fun w' h => rbdec_any D l.length e0 l w' h rfl (by omega))
  have hXok := bunD_ok l
  have hXfit := bunD_fit l (by omega)
  generalize bunD l = X at *
  generalize errD l = ed at *
  have hrx := Lib.hid (show ∀ lo lo' w' v v', BunV lo X w' v → BunV lo' X w' v' → Calls Try.prog 14 #[v, v'] w' fun e w'' => e = .returned (.bool true) ∧ Below w'.heap.size w' w'' from fun lo lo' w' v v' p q => by
    have h := rbsame_v hXok hXok hXfit p q
    rw [decide_eq_true rfl] at h; exact h)
  have hsm := Lib.hid (fun w' (p : BunV 0 a w' (.agg V.toArray)) (q : BunV 0 b w' (.agg U.toArray)) => bsame_v ha hb hfa p q)
  have hrs := Lib.hid (fun w' (p : BunV 0 a w' (.agg V.toArray)) (q : BunV 0 b w' (.agg U.toArray)) => rbsame_v ha hb hfa p q)
  generalize decide (a = b) = bq at hsm hrs
  have hcl := Lib.hid (fun w' (p : BunV 0 a w' (.agg V.toArray)) => bclone_v ha hsz.1 hsz.2.1 p)
  have hss := Lib.hid (show ∀ lo w' v', BunV lo a w' v' → BunV 0 a w' (.agg V.toArray) → Calls Try.prog 15 #[v', .agg V.toArray] w' fun e w'' => e = .returned (.bool true) ∧ Below w'.heap.size w' w'' from fun lo w' v' p q => by
    have h := bsame_v ha ha hfa p q
    rw [decide_eq_true rfl] at h; exact h)
  rw [if_neg (by rw [g1]; exact Bool.false_ne_true)] at hl1
  rw [if_neg (by rw [g2]; exact Bool.false_ne_true)] at hl2
  have g3' : (l.length : Int) ≤ 70000 := by omega
  clear hVl hUl h1 h2 ha hfa hb hfb g1 g2 g3 hc hsm1 hsz hXfit
  go_enter Try.func3, Try.ntmps3
  go_wp2_with (first
      | (go_at_call 6; refine (balive_any _).mono ?_; rintro e w3 ⟨rfl, hb3⟩; have r0 := r0.later hb3 r0.lt; have r1 := r1.later hb3 r1.lt; have hbw3 := hbw1.trans (hb3.mono hbw1.size); have R0 := Lib.hid (show w3.heap[w.heap.size]? = some (.cells V.toArray 30 (0, 0)) from r0); have R1 := Lib.hid (show w3.heap[w.heap.size + 1]? = some (.cells U.toArray 30 (0, 0)) from r1); clear hb3)
      | (with_reducible refine wpList_load_row rfl 30 (.tmp 3) rfl w.heap.size rfl 30 V.toArray (0, 0) _ R0.out Try.underlying30 rfl hzVa.out ?_)
      | (go_at_call 7; have _t := tok1; refine (hl1.out _ (hv.later hbw3)).mono ?_; rintro e w4 ⟨rfl, hb4⟩; have r0 := r0.later hb4 r0.lt; have r1 := r1.later hb4 r1.lt; have hbw4 := hbw3.trans (hb4.mono hbw3.size); have R0 := Lib.hid (show w4.heap[w.heap.size]? = some (.cells V.toArray 30 (0, 0)) from r0); have R1 := Lib.hid (show w4.heap[w.heap.size + 1]? = some (.cells U.toArray 30 (0, 0)) from r1); clear hb4 tok1)
      | (refine wpList_step fun K hK => ?_; refine step_load_mid (some 21) rfl (by rfl) 30 (.tmp 4) rfl (w.heap.size + 1) 0 rfl U _ (row_range (show Row _ (w.heap.size + 1) 30 U from R1.out)) Try.underlying30 rfl hzU.out ?_; refine hK _ _ ?_; clear hK)
      | (go_at_call 7; have _t := tok2; refine (hl2.out _ (hu.later hbw4)).mono ?_; rintro e w5 ⟨rfl, hb5⟩; have r0 := r0.later hb5 r0.lt; have r1 := r1.later hb5 r1.lt; have hbw5 := hbw4.trans (hb5.mono hbw4.size); have R0 := Lib.hid (show w5.heap[w.heap.size]? = some (.cells V.toArray 30 (0, 0)) from r0); have R1 := Lib.hid (show w5.heap[w.heap.size + 1]? = some (.cells U.toArray 30 (0, 0)) from r1); clear hb5 tok2)
      | (go_at_call 8; refine (hen.out _ (hv.later hbw5)).mono ?_; rintro e w6 ⟨B6, d6, rfl, hsl6, hb6⟩; have r0 := r0.later hb6 r0.lt; have r1 := r1.later hb6 r1.lt; have hbw6 := hbw5.trans (hb6.mono hbw5.size); have R0 := Lib.hid (show w6.heap[w.heap.size]? = some (.cells V.toArray 30 (0, 0)) from r0); have R1 := Lib.hid (show w6.heap[w.heap.size + 1]? = some (.cells U.toArray 30 (0, 0)) from r1); clear hb6)
      | (go_at_call 9; refine (hre.out _ (hv.later hbw6)).mono ?_; rintro e w7 ⟨B7, d7, rfl, hsl7, hb7⟩; have hsl6 := hsl6.later (Nat.le_refl _) hb7; have r0 := r0.later hb7 r0.lt; have r1 := r1.later hb7 r1.lt; have hbw7 := hbw6.trans (hb7.mono hbw6.size); have R0 := Lib.hid (show w7.heap[w.heap.size]? = some (.cells V.toArray 30 (0, 0)) from r0); have R1 := Lib.hid (show w7.heap[w.heap.size + 1]? = some (.cells U.toArray 30 (0, 0)) from r1); clear hb7)
      | (go_at_call 10; refine (hde.out _ (hq.later (Nat.le_refl _) hbw7)).mono ?_; rintro e w8 ⟨v8, rfl, hv8, hb8⟩; obtain ⟨V8, rfl, hlV8, hoV8, _⟩ := hv8.cells hXok; have hzV8 := Lib.hid (show (Try.prog.info? 30).map (·.size) = some V8.toArray.size by rw [size_bun, List.size_toArray, hlV8]); have hzlV8 := Lib.hid (show (Try.prog.info? 30).map (·.size) = some V8.length by rw [size_bun, hlV8]); have h37V8 := Lib.hid (show 37 = V8.toArray.size by rw [List.size_toArray, hlV8]); have honeV8 := Lib.hid (all_one hoV8); clear hlV8 hoV8; have hsl6 := hsl6.later (Nat.le_refl _) hb8; have hsl7 := hsl7.later (Nat.le_refl _) hb8; have r0 := r0.later hb8 r0.lt; have r1 := r1.later hb8 r1.lt; have hbw8 := hbw7.trans (hb8.mono hbw7.size); have R0 := Lib.hid (show w8.heap[w.heap.size]? = some (.cells V.toArray 30 (0, 0)) from r0); have R1 := Lib.hid (show w8.heap[w.heap.size + 1]? = some (.cells U.toArray 30 (0, 0)) from r1); clear hb8)
      | (with_reducible refine wpList_store_row rfl 30 (.tmp 11) (.tmp 43) rfl w8.heap.size V8.toArray rfl rfl 30 _ (heap_alloc_new w8 _) hzV8.out (Eq.trans (by kernel_rfl) h37V8.out) honeV8.out ?_; refine Hid.out ?_))
  refine Lib.hid ?_
  generalize hw9 : World.setRow _ _ _ = w9
  obtain ⟨r8, hb9⟩ := row_new_set (xs := V8) hw9
  have r0 := r0.later hb9 r0.lt
  have r1 := r1.later hb9 r1.lt
  have hbw9 := hbw8.trans (hb9.mono hbw8.size)
  have R0 := Lib.hid (show w9.heap[w.heap.size]? = some (.cells V.toArray 30 (0, 0)) from r0)
  have R1 := Lib.hid (show w9.heap[w.heap.size + 1]? = some (.cells U.toArray 30 (0, 0)) from r1)
  have hsl6 := hsl6.later (Nat.le_refl _) hb9
  have hsl7 := hsl7.later (Nat.le_refl _) hb9
  have hv8 := hv8.later hb9
  clear hw9 hb9
  generalize w8.heap.size = g8 at *
  go_wp2_with (first
      | (go_at_call 11; refine (hrd.out _ (hq.later (Nat.le_refl _) hbw9)).mono ?_; rintro e w10 ⟨v10, rfl, hv10, hb10⟩; obtain ⟨V10, rfl, hlV10, hoV10, _⟩ := hv10.cells hXok; have hzV10 := Lib.hid (show (Try.prog.info? 30).map (·.size) = some V10.toArray.size by rw [size_bun, List.size_toArray, hlV10]); have hzlV10 := Lib.hid (show (Try.prog.info? 30).map (·.size) = some V10.length by rw [size_bun, hlV10]); have h37V10 := Lib.hid (show 37 = V10.toArray.size by rw [List.size_toArray, hlV10]); have honeV10 := Lib.hid (all_one hoV10); clear hlV10 hoV10; have hsl6 := hsl6.later (Nat.le_refl _) hb10; have hsl7 := hsl7.later (Nat.le_refl _) hb10; have r8 := r8.later hb10 r8.lt; have hv8 := hv8.later hb10; have r0 := r0.later hb10 r0.lt; have r1 := r1.later hb10 r1.lt; have hbw10 := hbw9.trans (hb10.mono hbw9.size); have R0 := Lib.hid (show w10.heap[w.heap.size]? = some (.cells V.toArray 30 (0, 0)) from r0); have R1 := Lib.hid (show w10.heap[w.heap.size + 1]? = some (.cells U.toArray 30 (0, 0)) from r1); clear hb10)
      | (with_reducible refine wpList_store_row rfl 30 (.tmp 13) (.tmp 48) rfl w10.heap.size V10.toArray rfl rfl 30 _ (heap_alloc_new w10 _) hzV10.out (Eq.trans (by kernel_rfl) h37V10.out) honeV10.out ?_; refine Hid.out ?_))
  refine Lib.hid ?_
  generalize hw11 : World.setRow _ _ _ = w11
  obtain ⟨r10, hb11⟩ := row_new_set (xs := V10) hw11
  have r0 := r0.later hb11 r0.lt
  have r1 := r1.later hb11 r1.lt
  have hbw11 := hbw10.trans (hb11.mono hbw10.size)
  have R0 := Lib.hid (show w11.heap[w.heap.size]? = some (.cells V.toArray 30 (0, 0)) from r0)
  have R1 := Lib.hid (show w11.heap[w.heap.size + 1]? = some (.cells U.toArray 30 (0, 0)) from r1)
  have hsl6 := hsl6.later (Nat.le_refl _) hb11
  have hsl7 := hsl7.later (Nat.le_refl _) hb11
  have hv8 := hv8.later hb11
  have hv10 := hv10.later hb11
  have r8 := r8.later hb11 r8.lt
  clear hw11 hb11
  generalize w10.heap.size = g10 at *
  have hT : ∀ w', Below w11.heap.size w11 w' → w'.rangeAt w.heap.size 0 VT := fun w' h => (htk.out _ _ (r0.later h r0.lt)).1
  have hD : ∀ w', Below w11.heap.size w11 w' → w'.cell? ⟨w.heap.size, 36, none⟩ = some (.slice B n d) := fun w' h => (htk.out _ _ (r0.later h r0.lt)).2
  clear hl1 hl2 hen hre hde hrd
  go_wp2_with fail
  refine wp_region_noPanic ?_
  refine wp_region_held_drew (S := fun w' => Below w11.heap.size w11 w') (by kernel_rfl) ((Below.refl _ _).drew) (fun hHeld => ?_)
  have hB := hHeld
  refine rtake 0 _ (some 50) _ rfl rfl (by kernel_rfl) (by kernel_rfl) (by kernel_rfl) (fun _ _ _ h => h) (by rfl) hHeld (by intro w hS; exact run_load_op 30 (.tmp 3) rfl _ 0 rfl V _ (row_range (r0.later hS r0.lt)) Try.underlying30 rfl hzV.out) ?_
  try (first | (rw [put_some]; dsimp only [List.set]) | rw [put_none])
  refine rtake 3 _ (some 53) _ rfl rfl (by kernel_rfl) (by kernel_rfl) (by kernel_rfl) (fun _ _ _ h => h) (by rfl) hHeld (by intro w hS; exact run_load_op 30 (.tmp 3) rfl _ 0 rfl V _ (row_range (r0.later hS r0.lt)) Try.underlying30 rfl hzV.out) ?_
  try (first | (rw [put_some]; dsimp only [List.set]) | rw [put_none])
  refine wpAnyH_ready (rs := [1]) (by kernel_rfl) (by simp) (AllReadyH.cons (o := _) rfl (fun K hK => ?_) AllReadyH.nil)
  go_simp
  refine (hck.out _ (hv.later (hbw11.trans (hB.mono hbw11.size)))).mono ?_; rintro e ww111 ⟨rfl, hqw111⟩
  try go_wp2_with fail
  refine hK.out _ _ (hHeld.trans (hqw111.mono hHeld.size)) (fun hHeld' => ?_)
  clear hK K
  try (first | (rw [put_some]; dsimp only [List.set]) | rw [put_none])
  have hB := below_step hB hqw111
  have hB1 : Below ww111.heap.size ww111 ww111 := Below.refl _ _
  refine wpAnyH_narrow (S' := fun w' => Below ww111.heap.size ww111 w') (fun _ h => (hHeld.trans (hqw111.mono hHeld.size)).trans (h.mono (hHeld.trans (hqw111.mono hHeld.size)).size)) _ _ _ _ ?_
  clear hHeld
  have hHeld : Below ww111.heap.size ww111 ww111 := Below.refl _ _
  refine rtake 2 _ (some 52) _ rfl rfl (by kernel_rfl) (by kernel_rfl) (by kernel_rfl) (fun _ _ _ h => h) (by rfl) hHeld (by intro w hS; go_simp; try with_reducible rfl) ?_
  try (first | (rw [put_some]; dsimp only [List.set]) | rw [put_none])
  refine wpAnyH_ready (rs := [4]) (by kernel_rfl) (by simp) (AllReadyH.cons (o := _) rfl (fun K hK => ?_) AllReadyH.nil)
  go_simp
  refine (hrc.out _ (hv.later (hbw11.trans (hB.mono hbw11.size)))).mono ?_; rintro e ww114 ⟨rfl, hqw114⟩
  try go_wp2_with fail
  refine hK.out _ _ (hHeld.trans (hqw114.mono hHeld.size)) (fun hHeld' => ?_)
  clear hK K
  try (first | (rw [put_some]; dsimp only [List.set]) | rw [put_none])
  have hB := below_step hB hqw114
  have hB1 := below_step hB1 hqw114
  have hB4 : Below ww114.heap.size ww114 ww114 := Below.refl _ _
  refine wpAnyH_narrow (S' := fun w' => Below ww114.heap.size ww114 w') (fun _ h => (hHeld.trans (hqw114.mono hHeld.size)).trans (h.mono (hHeld.trans (hqw114.mono hHeld.size)).size)) _ _ _ _ ?_
  clear hHeld
  have hHeld : Below ww114.heap.size ww114 ww114 := Below.refl _ _
  refine rtake 5 _ (some 55) _ rfl rfl (by kernel_rfl) (by kernel_rfl) (by kernel_rfl) (fun _ _ _ h => h) (by rfl) hHeld (by intro w hS; go_simp; try with_reducible rfl) ?_
  try (first | (rw [put_some]; dsimp only [List.set]) | rw [put_none])
  refine rtake 6 _ (some 56) _ rfl rfl (by kernel_rfl) (by kernel_rfl) (by kernel_rfl) (fun _ _ _ h => h) (by rfl) hHeld (by intro w hS; go_simp; try with_reducible rfl) ?_
  try (first | (rw [put_some]; dsimp only [List.set]) | rw [put_none])
  refine rtake 7 _ (some 57) _ rfl rfl (by kernel_rfl) (by kernel_rfl) (by kernel_rfl) (fun _ _ _ h => h) (by rfl) hHeld (by intro w hS; go_simp; try with_reducible rfl) ?_
  try (first | (rw [put_some]; dsimp only [List.set]) | rw [put_none])
  have hcv8 := conv_later (hsl6.later (Nat.le_refl _) hB) E.length rfl
  refine rtake 8 _ (some 58) _ rfl rfl (by kernel_rfl) (by kernel_rfl) (by kernel_rfl) (fun _ _ _ h => h) (by rfl) hHeld (by intro w hS; go_simp; try with_reducible rfl) ?_
  try (first | (rw [put_some]; dsimp only [List.set]) | rw [put_none])
  refine rtake 9 _ (some 59) _ rfl rfl (by kernel_rfl) (by kernel_rfl) (by kernel_rfl) (fun _ _ _ h => h) (by rfl) hHeld (by intro w hS; go_simp; try with_reducible rfl) ?_
  try (first | (rw [put_some]; dsimp only [List.set]) | rw [put_none])
  have hcv10 := conv_later (hsl7.later (Nat.le_refl _) hB) E.length rfl
  refine rtake 10 _ (some 60) _ rfl rfl (by kernel_rfl) (by kernel_rfl) (by kernel_rfl) (fun _ _ _ h => h) (by rfl) hHeld (by intro w hS; go_simp; try with_reducible rfl) ?_
  try (first | (rw [put_some]; dsimp only [List.set]) | rw [put_none])
  refine rtake 11 _ (some 61) _ rfl rfl (by kernel_rfl) (by kernel_rfl) (by kernel_rfl) (fun _ _ _ h => h) (by rfl) hHeld (by intro w hS; go_simp; try with_reducible rfl) ?_
  try (first | (rw [put_some]; dsimp only [List.set]) | rw [put_none])
  refine rtake 12 _ (some 62) _ rfl rfl (by kernel_rfl) (by kernel_rfl) (by kernel_rfl) (fun _ _ _ h => h) (by rfl) hHeld (by intro w hS; go_simp; try with_reducible rfl) ?_
  try (first | (rw [put_some]; dsimp only [List.set]) | rw [put_none])
  refine rtake 13 _ (some 63) _ rfl rfl (by kernel_rfl) (by kernel_rfl) (by kernel_rfl) (fun _ _ _ h => h) (by rfl) hHeld (by intro w hS; go_simp; try with_reducible rfl) ?_
  try (first | (rw [put_some]; dsimp only [List.set]) | rw [put_none])
  refine rtake 14 _ (some 64) _ rfl rfl (by kernel_rfl) (by kernel_rfl) (by kernel_rfl) (fun _ _ _ h => h) (by rfl) hHeld (by intro w hS; go_simp; try with_reducible rfl) ?_
  try (first | (rw [put_some]; dsimp only [List.set]) | rw [put_none])
  refine rtake 15 _ (some 65) _ rfl rfl (by kernel_rfl) (by kernel_rfl) (by kernel_rfl) (fun _ _ _ h => h) (by rfl) hHeld (by intro w hS; go_simp; try with_reducible rfl) ?_
  try (first | (rw [put_some]; dsimp only [List.set]) | rw [put_none])
  refine rtake 16 _ (some 66) _ rfl rfl (by kernel_rfl) (by kernel_rfl) (by kernel_rfl) (fun _ _ _ h => h) (by rfl) hHeld (by intro w hS; go_simp; try with_reducible rfl) ?_
  try (first | (rw [put_some]; dsimp only [List.set]) | rw [put_none])
  refine rtake 17 _ (some 67) _ rfl rfl (by kernel_rfl) (by kernel_rfl) (by kernel_rfl) (fun _ _ _ h => h) (by rfl) hHeld (by intro w hS; go_simp; try with_reducible rfl) ?_
  try (first | (rw [put_some]; dsimp only [List.set]) | rw [put_none])
  refine rtake 18 _ (some 68) _ rfl rfl (by kernel_rfl) (by kernel_rfl) (by kernel_rfl) (fun _ _ _ h => h) (by rfl) hHeld (by intro w hS; go_simp; try with_reducible rfl) ?_
  try (first | (rw [put_some]; dsimp only [List.set]) | rw [put_none])
  refine rtake 19 _ (some 69) _ rfl rfl (by kernel_rfl) (by kernel_rfl) (by kernel_rfl) (fun _ _ _ h => h) (by rfl) hHeld (by intro w hS; exact run_load_op 30 (.tmp 11) rfl _ 0 rfl V8 _ (row_range ((r8.later hB r8.lt).later hS (r8.later hB r8.lt).lt)) Try.underlying30 rfl hzlV8.out) ?_
  try (first | (rw [put_some]; dsimp only [List.set]) | rw [put_none])
  refine rtake 20 _ (some 70) _ rfl rfl (by kernel_rfl) (by kernel_rfl) (by kernel_rfl) (fun _ _ _ h => h) (by rfl) hHeld (by intro w hS; exact run_load_op 30 (.tmp 13) rfl _ 0 rfl V10 _ (row_range ((r10.later hB r10.lt).later hS (r10.later hB r10.lt).lt)) Try.underlying30 rfl hzlV10.out) ?_
  try (first | (rw [put_some]; dsimp only [List.set]) | rw [put_none])
  refine wpAnyH_ready (rs := [21]) (by kernel_rfl) (by simp) (AllReadyH.cons (o := _) rfl (fun K hK => ?_) AllReadyH.nil)
  go_simp
  refine (hrx.out _ _ _ _ _ (hv8.later hB) (hv10.later hB)).mono ?_; rintro e ww1121 ⟨rfl, hqw1121⟩
  try go_wp2_with fail
  refine hK.out _ _ (hHeld.trans (hqw1121.mono hHeld.size)) (fun hHeld' => ?_)
  clear hK K
  try (first | (rw [put_some]; dsimp only [List.set]) | rw [put_none])
  have hB := below_step hB hqw1121
  have hB1 := below_step hB1 hqw1121
  have hB4 := below_step hB4 hqw1121
  have hB21 : Below ww1121.heap.size ww1121 ww1121 := Below.refl _ _
  refine wpAnyH_narrow (S' := fun w' => Below ww1121.heap.size ww1121 w') (fun _ h => (hHeld.trans (hqw1121.mono hHeld.size)).trans (h.mono (hHeld.trans (hqw1121.mono hHeld.size)).size)) _ _ _ _ ?_
  clear hHeld
  have hHeld : Below ww1121.heap.size ww1121 ww1121 := Below.refl _ _
  refine rtake 22 _ (some 72) _ rfl rfl (by kernel_rfl) (by kernel_rfl) (by kernel_rfl) (fun _ _ _ h => h) (by rfl) hHeld (by intro w hS; go_simp; try with_reducible rfl) ?_
  try (first | (rw [put_some]; dsimp only [List.set]) | rw [put_none])
  refine rtake 23 _ (some 73) _ rfl rfl (by kernel_rfl) (by kernel_rfl) (by kernel_rfl) (fun _ _ _ h => h) (by rfl) hHeld (by intro w hS; go_simp; try with_reducible rfl) ?_
  try (first | (rw [put_some]; dsimp only [List.set]) | rw [put_none])
  refine rtake 24 _ (some 74) _ rfl rfl (by kernel_rfl) (by kernel_rfl) (by kernel_rfl) (fun _ _ _ h => h) (by rfl) hHeld (by intro w hS; go_simp; try with_reducible rfl) ?_
  try (first | (rw [put_some]; dsimp only [List.set]) | rw [put_none])
  refine rtake 25 _ (some 75) _ rfl rfl (by kernel_rfl) (by kernel_rfl) (by kernel_rfl) (fun _ _ _ h => h) (by rfl) hHeld (by intro w hS; go_simp; try with_reducible rfl) ?_
  try (first | (rw [put_some]; dsimp only [List.set]) | rw [put_none])
  refine rtake 26 _ (some 76) _ rfl rfl (by kernel_rfl) (by kernel_rfl) (by kernel_rfl) (fun _ _ _ h => h) (by rfl) hHeld (by intro w hS; go_simp; try with_reducible rfl) ?_
  try (first | (rw [put_some]; dsimp only [List.set]) | rw [put_none])
  refine rtake 27 _ (some 77) _ rfl rfl (by kernel_rfl) (by kernel_rfl) (by kernel_rfl) (fun _ _ _ h => h) (by rfl) hHeld (by intro w hS; go_simp; try with_reducible rfl) ?_
  try (first | (rw [put_some]; dsimp only [List.set]) | rw [put_none])
  refine rtake 28 _ (some 78) _ rfl rfl (by kernel_rfl) (by kernel_rfl) (by kernel_rfl) (fun _ _ _ h => h) (by rfl) hHeld (by intro w hS; go_simp; try with_reducible rfl) ?_
  try (first | (rw [put_some]; dsimp only [List.set]) | rw [put_none])
  refine rtake 29 _ (some 79) _ rfl rfl (by kernel_rfl) (by kernel_rfl) (by kernel_rfl) (fun _ _ _ h => h) (by rfl) hHeld (by intro w hS; exact run_load_op 30 (.tmp 3) rfl _ 0 rfl V _ (row_range ((r0.later hB r0.lt).later hS (r0.later hB r0.lt).lt)) Try.underlying30 rfl hzV.out) ?_
  try (first | (rw [put_some]; dsimp only [List.set]) | rw [put_none])
  refine rtake 30 _ (some 80) _ rfl rfl (by kernel_rfl) (by kernel_rfl) (by kernel_rfl) (fun _ _ _ h => h) (by rfl) hHeld (by intro w hS; exact run_load_op 30 (.tmp 4) rfl _ 0 rfl U _ (row_range ((r1.later hB r1.lt).later hS (r1.later hB r1.lt).lt)) Try.underlying30 rfl hzU.out) ?_
  try (first | (rw [put_some]; dsimp only [List.set]) | rw [put_none])
  refine rtake 32 _ (some 82) _ rfl rfl (by kernel_rfl) (by kernel_rfl) (by kernel_rfl) (fun _ _ _ h => h) (by rfl) hHeld (by intro w hS; exact run_load_op 30 (.tmp 3) rfl _ 0 rfl V _ (row_range ((r0.later hB r0.lt).later hS (r0.later hB r0.lt).lt)) Try.underlying30 rfl hzV.out) ?_
  try (first | (rw [put_some]; dsimp only [List.set]) | rw [put_none])
  refine rtake 33 _ (some 83) _ rfl rfl (by kernel_rfl) (by kernel_rfl) (by kernel_rfl) (fun _ _ _ h => h) (by rfl) hHeld (by intro w hS; exact run_load_op 30 (.tmp 4) rfl _ 0 rfl U _ (row_range ((r1.later hB r1.lt).later hS (r1.later hB r1.lt).lt)) Try.underlying30 rfl hzU.out) ?_
  try (first | (rw [put_some]; dsimp only [List.set]) | rw [put_none])
  refine wpAnyH_ready (rs := [31]) (by kernel_rfl) (by simp) (AllReadyH.cons (o := _) rfl (fun K hK => ?_) AllReadyH.nil)
  go_simp
  refine (hsm.out _ (hv.later (hbw11.trans (hB.mono hbw11.size))) (hu.later (hbw11.trans (hB.mono hbw11.size)))).mono ?_; rintro e ww1131 ⟨rfl, hqw1131⟩
  try go_wp2_with fail
  refine hK.out _ _ (hHeld.trans (hqw1131.mono hHeld.size)) (fun hHeld' => ?_)
  clear hK K
  try (first | (rw [put_some]; dsimp only [List.set]) | rw [put_none])
  have hB := below_step hB hqw1131
  have hB1 := below_step hB1 hqw1131
  have hB4 := below_step hB4 hqw1131
  have hB21 := below_step hB21 hqw1131
  have hB31 : Below ww1131.heap.size ww1131 ww1131 := Below.refl _ _
  refine wpAnyH_narrow (S' := fun w' => Below ww1131.heap.size ww1131 w') (fun _ h => (hHeld.trans (hqw1131.mono hHeld.size)).trans (h.mono (hHeld.trans (hqw1131.mono hHeld.size)).size)) _ _ _ _ ?_
  clear hHeld
  have hHeld : Below ww1131.heap.size ww1131 ww1131 := Below.refl _ _
  refine wpAnyH_ready (rs := [34]) (by kernel_rfl) (by simp) (AllReadyH.cons (o := _) rfl (fun K hK => ?_) AllReadyH.nil)
  go_simp
  refine (hrs.out _ (hv.later (hbw11.trans (hB.mono hbw11.size))) (hu.later (hbw11.trans (hB.mono hbw11.size)))).mono ?_; rintro e ww1134 ⟨rfl, hqw1134⟩
  try go_wp2_with fail
  refine hK.out _ _ (hHeld.trans (hqw1134.mono hHeld.size)) (fun hHeld' => ?_)
  clear hK K
  try (first | (rw [put_some]; dsimp only [List.set]) | rw [put_none])
  have hB := below_step hB hqw1134
  have hB1 := below_step hB1 hqw1134
  have hB4 := below_step hB4 hqw1134
  have hB21 := below_step hB21 hqw1134
  have hB31 := below_step hB31 hqw1134
  have hB34 : Below ww1134.heap.size ww1134 ww1134 := Below.refl _ _
  refine wpAnyH_narrow (S' := fun w' => Below ww1134.heap.size ww1134 w') (fun _ h => (hHeld.trans (hqw1134.mono hHeld.size)).trans (h.mono (hHeld.trans (hqw1134.mono hHeld.size)).size)) _ _ _ _ ?_
  clear hHeld
  have hHeld : Below ww1134.heap.size ww1134 ww1134 := Below.refl _ _
  refine rtake 35 _ (some 85) _ rfl rfl (by kernel_rfl) (by kernel_rfl) (by kernel_rfl) (fun _ _ _ h => h) (by rfl) hHeld (by intro w hS; go_simp; try with_reducible rfl) ?_
  try (first | (rw [put_some]; dsimp only [List.set]) | rw [put_none])
  refine rtake 36 _ (some 86) _ rfl rfl (by kernel_rfl) (by kernel_rfl) (by kernel_rfl) (fun _ _ _ h => h) (by rfl) hHeld (by intro w hS; go_simp; try with_reducible rfl) ?_
  try (first | (rw [put_some]; dsimp only [List.set]) | rw [put_none])
  refine rtake 37 _ (some 87) _ rfl rfl (by kernel_rfl) (by kernel_rfl) (by kernel_rfl) (fun _ _ _ h => h) (by rfl) hHeld (by intro w hS; go_simp; try with_reducible rfl) ?_
  try (first | (rw [put_some]; dsimp only [List.set]) | rw [put_none])
  refine rtake 38 _ (some 88) _ rfl rfl (by kernel_rfl) (by kernel_rfl) (by kernel_rfl) (fun _ _ _ h => h) (by rfl) hHeld (by intro w hS; exact run_load_op 30 (.tmp 3) rfl _ 0 rfl V _ (row_range ((r0.later hB r0.lt).later hS (r0.later hB r0.lt).lt)) Try.underlying30 rfl hzV.out) ?_
  try (first | (rw [put_some]; dsimp only [List.set]) | rw [put_none])
  refine rtake 40 _ (some 90) _ rfl rfl (by kernel_rfl) (by kernel_rfl) (by kernel_rfl) (fun _ _ _ h => h) (by rfl) hHeld (by intro w hS; exact run_load_op 30 (.tmp 3) rfl _ 0 rfl V _ (row_range ((r0.later hB r0.lt).later hS (r0.later hB r0.lt).lt)) Try.underlying30 rfl hzV.out) ?_
  try (first | (rw [put_some]; dsimp only [List.set]) | rw [put_none])
  refine wpAnyH_ready (rs := [39]) (by kernel_rfl) (by simp) (AllReadyH.cons (o := _) rfl (fun K hK => ?_) AllReadyH.nil)
  go_simp
  refine (hcl.out _ (hv.later (hbw11.trans (hB.mono hbw11.size)))).mono ?_; rintro e ww1139 ⟨v39, rfl, hv39, hqw1139⟩
  try go_wp2_with fail
  refine hK.out _ _ (hHeld.trans (hqw1139.mono hHeld.size)) (fun hHeld' => ?_)
  clear hK K
  try (first | (rw [put_some]; dsimp only [List.set]) | rw [put_none])
  have hB := below_step hB hqw1139
  have hB1 := below_step hB1 hqw1139
  have hB4 := below_step hB4 hqw1139
  have hB21 := below_step hB21 hqw1139
  have hB31 := below_step hB31 hqw1139
  have hB34 := below_step hB34 hqw1139
  have hB39 : Below ww1139.heap.size ww1139 ww1139 := Below.refl _ _
  refine wpAnyH_narrow (S' := fun w' => Below ww1139.heap.size ww1139 w') (fun _ h => (hHeld.trans (hqw1139.mono hHeld.size)).trans (h.mono (hHeld.trans (hqw1139.mono hHeld.size)).size)) _ _ _ _ ?_
  clear hHeld
  have hHeld : Below ww1139.heap.size ww1139 ww1139 := Below.refl _ _
  refine wpAnyH_ready (rs := [41]) (by kernel_rfl) (by simp) (AllReadyH.cons (o := _) rfl (fun K hK => ?_) AllReadyH.nil)
  go_simp
  refine (hss.out _ _ _ (hv39.later hB39) (hv.later (hbw11.trans (hB.mono hbw11.size)))).mono ?_; rintro e ww1141 ⟨rfl, hqw1141⟩
  try go_wp2_with fail
  refine hK.out _ _ (hHeld.trans (hqw1141.mono hHeld.size)) (fun hHeld' => ?_)
  clear hK K
  try (first | (rw [put_some]; dsimp only [List.set]) | rw [put_none])
  have hB := below_step hB hqw1141
  have hB1 := below_step hB1 hqw1141
  have hB4 := below_step hB4 hqw1141
  have hB21 := below_step hB21 hqw1141
  have hB31 := below_step hB31 hqw1141
  have hB34 := below_step hB34 hqw1141
  have hB39 := below_step hB39 hqw1141
  have hB41 : Below ww1141.heap.size ww1141 ww1141 := Below.refl _ _
  refine wpAnyH_narrow (S' := fun w' => Below ww1141.heap.size ww1141 w') (fun _ h => (hHeld.trans (hqw1141.mono hHeld.size)).trans (h.mono (hHeld.trans (hqw1141.mono hHeld.size)).size)) _ _ _ _ ?_
  clear hHeld
  have hHeld : Below ww1141.heap.size ww1141 ww1141 := Below.refl _ _
  refine rtake 42 _ (some 92) _ rfl rfl (by kernel_rfl) (by kernel_rfl) (by kernel_rfl) (fun _ _ _ h => h) (by rfl) hHeld (by intro w hS; go_simp; try with_reducible rfl) ?_
  try (first | (rw [put_some]; dsimp only [List.set]) | rw [put_none])
  refine rtake 43 _ (some 93) _ rfl rfl (by kernel_rfl) (by kernel_rfl) (by kernel_rfl) (fun _ _ _ h => h) (by rfl) hHeld (by intro w hS; go_simp; try with_reducible rfl) ?_
  try (first | (rw [put_some]; dsimp only [List.set]) | rw [put_none])
  refine rtake 44 _ (some 94) _ rfl rfl (by kernel_rfl) (by kernel_rfl) (by kernel_rfl) (fun _ _ _ h => h) (by rfl) hHeld (by intro w hS; go_simp; try with_reducible rfl) ?_
  try (first | (rw [put_some]; dsimp only [List.set]) | rw [put_none])
  refine rtake 45 _ (some 95) _ rfl rfl (by kernel_rfl) (by kernel_rfl) (by kernel_rfl) (fun _ _ _ h => h) (by rfl) hHeld (by intro w hS; exact run_load_op 27 (.tmp 94) rfl _ 0 rfl VT _ (hT _ (hB.trans (hS.mono hB.size))) Try.underlying27 rfl hzT.out) ?_
  try (first | (rw [put_some]; dsimp only [List.set]) | rw [put_none])
  refine rtake 46 _ (some 96) _ rfl rfl (by kernel_rfl) (by kernel_rfl) (by kernel_rfl) (fun _ _ _ h => h) (by rfl) hHeld (by intro w hS; go_simp; try with_reducible rfl) ?_
  try (first | (rw [put_some]; dsimp only [List.set]) | rw [put_none])
  have hc47 := fun w' (h : Below _ _ w') => hD w' (hB.trans (h.mono hB.size))
  refine rtake 47 _ (some 97) _ rfl rfl (by kernel_rfl) (by kernel_rfl) (by kernel_rfl) (fun _ _ _ h => h) (by rfl) hHeld (by intro w hS; go_simp; try with_reducible rfl) ?_
  try (first | (rw [put_some]; dsimp only [List.set]) | rw [put_none])
  refine rtake 49 _ (some 99) _ rfl rfl (by kernel_rfl) (by kernel_rfl) (by kernel_rfl) (fun _ _ _ h => h) (by rfl) hHeld (by intro w hS; exact run_load_op 30 (.tmp 3) rfl _ 0 rfl V _ (row_range ((r0.later hB r0.lt).later hS (r0.later hB r0.lt).lt)) Try.underlying30 rfl hzV.out) ?_
  try (first | (rw [put_some]; dsimp only [List.set]) | rw [put_none])
  refine wpAnyH_ready (rs := [48]) (by kernel_rfl) (by simp) (AllReadyH.cons (o := _) rfl (fun K hK => ?_) AllReadyH.nil)
  go_simp
  refine (hof.out _ (hbw11.trans (hB.mono hbw11.size))).mono ?_; rintro e ww1148 ⟨v48, rfl, hv48, hqw1148⟩
  try go_wp2_with fail
  refine hK.out _ _ (hHeld.trans (hqw1148.mono hHeld.size)) (fun hHeld' => ?_)
  clear hK K
  try (first | (rw [put_some]; dsimp only [List.set]) | rw [put_none])
  have hB := below_step hB hqw1148
  have hB1 := below_step hB1 hqw1148
  have hB4 := below_step hB4 hqw1148
  have hB21 := below_step hB21 hqw1148
  have hB31 := below_step hB31 hqw1148
  have hB34 := below_step hB34 hqw1148
  have hB39 := below_step hB39 hqw1148
  have hB41 := below_step hB41 hqw1148
  have hB48 : Below ww1148.heap.size ww1148 ww1148 := Below.refl _ _
  refine wpAnyH_narrow (S' := fun w' => Below ww1148.heap.size ww1148 w') (fun _ h => (hHeld.trans (hqw1148.mono hHeld.size)).trans (h.mono (hHeld.trans (hqw1148.mono hHeld.size)).size)) _ _ _ _ ?_
  clear hHeld
  have hHeld : Below ww1148.heap.size ww1148 ww1148 := Below.refl _ _
  refine wpAnyH_ready (rs := [50]) (by kernel_rfl) (by simp) (AllReadyH.cons (o := _) rfl (fun K hK => ?_) AllReadyH.nil)
  go_simp
  refine (hss.out _ _ _ (hv48.later hB48) (hv.later (hbw11.trans (hB.mono hbw11.size)))).mono ?_; rintro e ww1150 ⟨rfl, hqw1150⟩
  try go_wp2_with fail
  refine hK.out _ _ (hHeld.trans (hqw1150.mono hHeld.size)) (fun hHeld' => ?_)
  clear hK K
  try (first | (rw [put_some]; dsimp only [List.set]) | rw [put_none])
  have hB := below_step hB hqw1150
  have hB1 := below_step hB1 hqw1150
  have hB4 := below_step hB4 hqw1150
  have hB21 := below_step hB21 hqw1150
  have hB31 := below_step hB31 hqw1150
  have hB34 := below_step hB34 hqw1150
  have hB39 := below_step hB39 hqw1150
  have hB41 := below_step hB41 hqw1150
  have hB48 := below_step hB48 hqw1150
  have hB50 : Below ww1150.heap.size ww1150 ww1150 := Below.refl _ _
  refine wpAnyH_narrow (S' := fun w' => Below ww1150.heap.size ww1150 w') (fun _ h => (hHeld.trans (hqw1150.mono hHeld.size)).trans (h.mono (hHeld.trans (hqw1150.mono hHeld.size)).size)) _ _ _ _ ?_
  clear hHeld
  have hHeld : Below ww1150.heap.size ww1150 ww1150 := Below.refl _ _
  refine rtake 51 _ (some 101) _ rfl rfl (by kernel_rfl) (by kernel_rfl) (by kernel_rfl) (fun _ _ _ h => h) (by rfl) hHeld (by intro w hS; go_simp; try with_reducible rfl) ?_
  try (first | (rw [put_some]; dsimp only [List.set]) | rw [put_none])
  refine rtake 52 _ (some 6) _ rfl rfl (by kernel_rfl) (by kernel_rfl) (by kernel_rfl) (fun _ _ _ h => h) (by rfl) hHeld (by intro w hS; go_simp; try with_reducible rfl) ?_
  try (first | (rw [put_some]; dsimp only [List.set]) | rw [put_none])
  refine wpAnyH_done (by kernel_rfl) ?_ _
  refine NoPanic.normal ?_
  have hbwN := hbw11.trans (hB.mono hbw11.size)
  clear hB hHeld
  go_wp2_with fail
  go_ret
  exact ⟨rfl, hbwN⟩
end Go.Proofs.Ythiebbhooigogaa
