/- LAYER 9: the document's Get. -/
import Derived.Test.YthiebbhooigogaaJ9
import Derived.Test.YthiebbhooigogaaVg
namespace Go.Proofs.Ythiebbhooigogaa
open Go Go.RowKit

def getFV (r : Fd × Nat) : Value := .tuple #[.agg (fdV r.1).toArray, .int .i64 r.2]
set_option maxRecDepth 20000 in
set_option maxHeartbeats 2000000 in
theorem rgetf_any (A : Option Addr) (n c : Nat) (l : List UInt8) (w : World) (hs : Sl w A c (byts l)) (hn : n = l.length) (hm : l.length ≤ 1000000) :
    Calls Try.prog 39 #[.slice A n c] w fun e w' => e = .returned (getFV (getF l)) ∧ Below w.heap.size w w' := by
  subst hn
  have hb0 := (Below.refl w.heap.size w).alloc (Nat.le_refl _) (.cells #[.int .u8 0, .string { data := #[] }] 65)
  by_cases h2 : l.length < 2
  · have hG := Lib.hid (show getF l = ((0, []), 0) by unfold getF; rw [if_pos h2])
    have hl : (l.length : Int) < 2 := by omega
    generalize l.length = n at *
    go_enter Try.func39, Try.ntmps39
    go_wp2
    exact ⟨rfl, _, results_row_tmp rfl _ _ w.heap.size 65 _ (0, 0) _ rfl (heap_alloc_new w _) Try.underlying65 rfl (by kernel_rfl) _ rfl, by rw [hG.out]; rfl, hb0⟩
  obtain ⟨b, o, rfl, _, _⟩ := hs.rd.get (i := 0) (by rw [length_byts]; omega)
  have hl : ¬ (l.length : Int) < 2 := by omega
  have hl2 : (2 : Int) ≤ (l.length : Int) := by omega
  have hs0 := hs.later (Nat.le_refl _) hb0
  have hroom := hs.room
  rw [length_byts] at hroom
  have hc1 : ¬ c = 1 := by omega
  have hc2 : (1 : Int) ≤ (c : Int) := by omega
  have hsl1 := hs0.cut (k := 1) (by rw [length_byts]; omega)
  rw [show (byts l).drop 1 = byts (l.drop 1) by unfold byts; rw [List.map_drop]] at hsl1
  obtain ⟨G, hGq⟩ : ∃ G, G = getL (l.drop 1) := ⟨_, rfl⟩
  have hback := getL_back (l.drop 1)
  obtain ⟨g, k⟩ := G
  have hget := Lib.hid (show ∀ w1 d, Sl w1 (some ⟨b, o + 1, none⟩) d (byts (l.drop 1)) → Calls Try.prog 40 #[.slice (some ⟨b, o + 1, none⟩) (l.length - 1) d] w1 fun e w' => e = .returned (.tuple #[.int .u64 g, .int .i64 k]) ∧ Below w1.heap.size w1 w' by
    intro w1 d h
    have h := rget8_any _ (l.length - 1) d (l.drop 1) w1 h (by rw [List.length_drop]) (by rw [List.length_drop]; omega)
    rw [← hGq] at h
    exact h)
  have hk10 : k ≤ 10 ∧ (k = 0 → g = 0) ∧ k ≤ l.length - 1 ∧ g < 18446744073709551616 := by
    rcases hback with h0 | ⟨p1, p2, p3, p4, _⟩
    · rw [← hGq] at h0
      injection h0 with e1 e2
      subst e1 e2
      omega
    · rw [← hGq] at p1 p2 p3 p4
      rw [List.length_drop] at p2
      dsimp only at p1 p2 p3 p4
      refine ⟨p3, fun hk => ?_, p2, p4⟩
      subst hk
      omega
  have hGd : getF l = if k = 0 ∨ l.length - 1 - k < g then ((0, []), 0) else ((l.getD 0 0, (l.drop (1 + k)).take g), 1 + k + g) := by
    unfold getF
    rw [if_neg h2, ← hGq]
  clear hback hGq
  have hkb : (k : Int) ≤ 10 := by omega
  have hkl : (k : Int) ≤ ((l.length - 1 : Nat) : Int) := by omega
  obtain ⟨q2, hq2⟩ : ∃ q, q = l.length - 1 - k := ⟨_, rfl⟩
  have r0 : Row (w.alloc (.cells #[.int .u8 0, .string { data := #[] }] 65)) w.heap.size 65 [.int .u8 0, .string { data := #[] }] := Row.new w 65 [.int .u8 0, .string { data := #[] }]
  by_cases h0 : k = 0
  · have hG := Lib.hid (hGd.trans (if_pos (.inl h0)))
    subst h0
    have hg0 := hk10.2.1 rfl
    subst hg0
    clear hk10 hGd hs hq2
    go_enter Try.func39, Try.ntmps39
    go_wp2_with (first
      | (go_at_call 40; refine (hget.out _ _ hsl1).mono ?_; rintro e w3 ⟨rfl, hb3⟩; have hbw3 := hb0.trans (hb3.mono hb0.size); have r3 := r0.later hb3 r0.lt; have R3 := Lib.hid (show w3.heap[w.heap.size]? = some (.cells #[.int .u8 0, .string { data := #[] }] 65 (0, 0)) from r3))
      | (with_reducible refine wpList_store_row rfl 65 (.tmp 2) (.tmp 29) rfl w.heap.size #[.int .u8 0, .string { data := #[] }] rfl rfl 65 _ R3.out (by kernel_rfl) (by rfl) (by kernel_rfl) ?_; refine Hid.out ?_))
    refine Lib.hid ?_
    generalize hw5 : World.setRow _ _ _ = w5
    obtain ⟨r5, hg5⟩ := row_set (xs := [.int .u8 0, .string { data := #[] }]) r3 hw5
    have hb5 := hbw3.grown hg5 hbw3.size (fun k h => by cases h; exact Nat.le_refl _)
    have R5 := Lib.hid (show w5.heap[w.heap.size]? = some (.cells #[.int .u8 0, .string { data := #[] }] 65 (0, 0)) from r5)
    clear hw5 r5 hg5 R3 r3
    go_wp2_with fail
    exact ⟨rfl, _, results_row_tmp rfl _ _ w.heap.size 65 _ (0, 0) _ rfl R5.out Try.underlying65 rfl (by kernel_rfl) _ rfl, by rw [hG.out]; rfl, hb5⟩
  by_cases hbig : q2 < g
  · have hG := Lib.hid (hGd.trans (if_pos (.inr (by omega))))
    have hb' : ((l.length - 1 : Nat) : Int) - (k : Int) < (g : Int) := by omega
    have hk0 : ((k : Int) == 0) = false := by rw [beq_eq_false_iff_ne]; omega
    clear hk10 hGd hs h0 hbig
    clear hq2
    go_enter Try.func39, Try.ntmps39
    go_wp2_with (first
      | (go_at_call 40; refine (hget.out _ _ hsl1).mono ?_; rintro e w3 ⟨rfl, hb3⟩; have hbw3 := hb0.trans (hb3.mono hb0.size); have r3 := r0.later hb3 r0.lt; have R3 := Lib.hid (show w3.heap[w.heap.size]? = some (.cells #[.int .u8 0, .string { data := #[] }] 65 (0, 0)) from r3))
      | (with_reducible refine wpList_store_row rfl 65 (.tmp 2) (.tmp 29) rfl w.heap.size #[.int .u8 0, .string { data := #[] }] rfl rfl 65 _ R3.out (by kernel_rfl) (by rfl) (by kernel_rfl) ?_; refine Hid.out ?_))
    refine Lib.hid ?_
    generalize hw5 : World.setRow _ _ _ = w5
    obtain ⟨r5, hg5⟩ := row_set (xs := [.int .u8 0, .string { data := #[] }]) r3 hw5
    have hb5 := hbw3.grown hg5 hbw3.size (fun k h => by cases h; exact Nat.le_refl _)
    have R5 := Lib.hid (show w5.heap[w.heap.size]? = some (.cells #[.int .u8 0, .string { data := #[] }] 65 (0, 0)) from r5)
    clear hw5 r5 hg5 R3 r3
    go_wp2_with fail
    exact ⟨rfl, _, results_row_tmp rfl _ _ w.heap.size 65 _ (0, 0) _ rfl R5.out Try.underlying65 rfl (by kernel_rfl) _ rfl, by rw [hG.out]; rfl, hb5⟩
  have hG := Lib.hid (hGd.trans (if_neg (by omega)))
  have hb' : ¬ ((l.length - 1 : Nat) : Int) - (k : Int) < (g : Int) := by omega
  have hb2' : (g : Int) ≤ ((l.length - 1 : Nat) : Int) - (k : Int) := by omega
  have hk0 : ((k : Int) == 0) = false := by rw [beq_eq_false_iff_ne]; omega
  have hwk : IntKind.i64.wrap (1 + (k : Int)) = 1 + (k : Int) := by rw [IntKind.wrap_i64]; omega
  obtain ⟨A2, hcut, _, hsl2⟩ := cut_run (some ⟨b, o, none⟩) c l _ hs (1 + k) (1 + k + g) (by omega) (by omega)
  rw [show ((1 + k : Nat) : Int) = 1 + (k : Int) by omega, show ((1 + k + g : Nat) : Int) = 1 + (k : Int) + (g : Int) by omega, show 1 + k + g - (1 + k) = g by omega] at hcut
  rw [show 1 + k + g - (1 + k) = g by omega] at hsl2
  obtain ⟨T, hT⟩ : ∃ T, T = (l.drop (1 + k)).take g := ⟨_, rfl⟩
  rw [← hT] at hsl2
  have hTl : g = T.length := by rw [hT, List.length_take, List.length_drop]; omega
  obtain ⟨x, hx⟩ : ∃ x, x = l.getD 0 0 := ⟨_, rfl⟩
  rw [← hx, ← hT] at hG
  clear hk10 hGd h0 hbig hT hq2
  have HTl := Lib.hid hTl
  clear hTl
  have hpos : 0 < l.length := by omega
  have hcell : w.cell? ⟨b, o, none⟩ = some (.int .u8 (x.toNat : Int)) := by
    obtain ⟨b', o', he, _, hc⟩ := hs.rd.get (i := 0) (by rw [length_byts]; omega)
    cases he
    rw [Nat.add_zero] at hc
    rw [hc, get_byts _ _ (by omega), ← hx]
  have hbl := sl_lt hs (by rw [length_byts]; omega)
  clear hx
  have hone := Lib.hid (show ∀ v ∈ fdV (x, T), v.oneCell' = true from fun v hv => fdV_one [(x, T)] v (by simpa using hv))
  have hszl := Lib.hid (show (Try.prog.info? 65).map (·.size) = some (fdV (x, T)).length from size_fd)
  have hfit := Lib.hid (show 0 + (fdV (x, T)).length ≤ ([.int .u8 0, .string { data := #[] }] : List Value).length from Nat.le_refl _)
  go_enter Try.func39, Try.ntmps39
  go_wp2_with (go_at_call 40; refine (hget.out _ _ hsl1).mono ?_; rintro e w5 ⟨rfl, hb3⟩; have hbw5 := hb0.trans (hb3.mono hb0.size); have r3 := r0.later hb3 r0.lt)
  have hne : w.heap.size ≠ b := by omega
  have hcell5 : ∀ w', w5.grownBy w' (some w.heap.size) → w'.cell? ⟨b, o, none⟩ = some (.int .u8 (x.toNat : Int)) := fun w' h => by
    rw [h.cell_far _ (Nat.lt_of_lt_of_le hbl hbw5.size) (fun e => hne (by injection e with e; exact e.symm)), hbw5.cell (p := ⟨b, o, none⟩) hbl]
    exact hcell
  have hcv5 := conv_grown (g := w.heap.size) (hsl2.later (Nat.le_refl _) hbw5) g HTl.out (fun h a ha => by have := hsl2.block_lt (by rw [length_byts]; exact h) ha; omega)
  clear hget hs0 hsl1 hcell hs hsl2 r0 hb0
  refine wp_region_noPanic ?_
  refine wp_region_held_drew (S := fun w' => World.grownBy w5 w' (some (w.heap.size))) (by kernel_rfl) (grown_of_below (Below.refl _ _).drew _) (fun hHeld => ?_)
  have hAll := hHeld
  refine rtake 0 _ (some 35) _ rfl rfl (by kernel_rfl) (by kernel_rfl) (by kernel_rfl) (fun _ _ _ h => h) (by rfl) hHeld (by intro w hS; go_simp; try with_reducible rfl) ?_
  try (first | (rw [put_some]; dsimp only [List.set]) | rw [put_none])
  refine rtake 1 _ (some 36) _ rfl rfl (by kernel_rfl) (by kernel_rfl) (by kernel_rfl) (fun _ _ _ h => h) (by rfl) hHeld (by intro w hS; go_simp; try with_reducible rfl) ?_
  try (first | (rw [put_some]; dsimp only [List.set]) | rw [put_none])
  refine rtake 2 _ (some 37) _ rfl rfl (by kernel_rfl) (by kernel_rfl) (by kernel_rfl) (fun _ _ _ h => h) (by rfl) hHeld (by intro w hS; go_simp; try with_reducible rfl) ?_
  try (first | (rw [put_some]; dsimp only [List.set]) | rw [put_none])
  refine rtake 3 _ (some 38) _ rfl rfl (by kernel_rfl) (by kernel_rfl) (by kernel_rfl) (fun _ _ _ h => h) (by rfl) hHeld (by intro w hS; go_simp; try with_reducible rfl) ?_
  try (first | (rw [put_some]; dsimp only [List.set]) | rw [put_none])
  refine rtake 4 _ (some 39) _ rfl rfl (by kernel_rfl) (by kernel_rfl) (by kernel_rfl) (fun _ _ _ h => h) (by rfl) hHeld (by intro w hS; go_simp; try with_reducible rfl) ?_
  try (first | (rw [put_some]; dsimp only [List.set]) | rw [put_none])
  refine rtake 5 _ (some 40) _ rfl rfl (by kernel_rfl) (by kernel_rfl) (by kernel_rfl) (fun _ _ _ h => h) (by rfl) hHeld (by intro w hS; go_simp; try with_reducible rfl) ?_
  try (first | (rw [put_some]; dsimp only [List.set]) | rw [put_none])
  refine rtake 6 _ (some 41) _ rfl rfl (by kernel_rfl) (by kernel_rfl) (by kernel_rfl) (fun _ _ _ h => h) (by rfl) hHeld (by intro w hS; go_simp; try with_reducible rfl) ?_
  try (first | (rw [put_some]; dsimp only [List.set]) | rw [put_none])
  refine rtake 7 _ (some 42) _ rfl rfl (by kernel_rfl) (by kernel_rfl) (by kernel_rfl) (fun _ _ _ h => h) (by rfl) hHeld (by intro w hS; go_simp; try with_reducible rfl) ?_
  try (first | (rw [put_some]; dsimp only [List.set]) | rw [put_none])
  refine rtake 8 _ (some 43) _ rfl rfl (by kernel_rfl) (by kernel_rfl) (by kernel_rfl) (fun _ _ _ h => h) (by rfl) hHeld (by intro w hS; go_simp; try with_reducible rfl) ?_
  try (first | (rw [put_some]; dsimp only [List.set]) | rw [put_none])
  refine rtake 9 _ (some 44) _ rfl rfl (by kernel_rfl) (by kernel_rfl) (by kernel_rfl) (fun _ _ _ h => h) (by rfl) hHeld (by intro w hS; go_simp; try with_reducible rfl) ?_
  try (first | (rw [put_some]; dsimp only [List.set]) | rw [put_none])
  refine rtake 10 _ (some 45) _ rfl rfl (by kernel_rfl) (by kernel_rfl) (by kernel_rfl) (fun _ _ _ h => h) (by rfl) hHeld (by intro w hS; go_simp; try with_reducible rfl) ?_
  try (first | (rw [put_some]; dsimp only [List.set]) | rw [put_none])
  refine wpAnyH_ready (rs := [11]) (by kernel_rfl) (by simp) (AllReadyH.cons (o := _) rfl (fun K hK => ?_) AllReadyH.nil)
  refine step_store_row none rfl (by rfl) 65 (.tmp 2) (.tmp 44) rfl w.heap.size 0 65 _ (fdV (x, T)) rfl rfl (r3.drew) hfit.out hszl.out hone.out ?_; intro w9 r9 hg9
  refine hK.out _ _ (grown_trans hHeld hg9) (fun _ => ?_)
  clear hK K
  try (first | (rw [put_some]; dsimp only [List.set]) | rw [put_none])
  have hAll := grown_trans hAll hg9
  refine wpAnyH_narrow (S' := fun w' => World.grownBy w9 w' (some (w.heap.size))) (fun _ h => grown_trans (grown_trans hHeld hg9) h) _ _ _ _ ?_
  clear hHeld
  have hHeld : World.grownBy w9 w9 (some (w.heap.size)) := grown_refl _ _
  refine rtake 12 _ (some 3) _ rfl rfl (by kernel_rfl) (by kernel_rfl) (by kernel_rfl) (fun _ _ _ h => h) (by rfl) hHeld (by intro w hS; go_simp; try with_reducible rfl) ?_
  try (first | (rw [put_some]; dsimp only [List.set]) | rw [put_none])
  refine wpAnyH_done (by kernel_rfl) ?_ _
  refine NoPanic.normal ?_
  have r9 : Row w9 w.heap.size 65 (fdV (x, T)) := r9
  have hb9 := hbw5.grown hAll hbw5.size (fun k h => by cases h; exact Nat.le_refl _)
  have R9 := Lib.hid (show w9.heap[w.heap.size]? = some (.cells (fdV (x, T)).toArray 65 (0, 0)) from r9)
  clear hcell5 hcv5 r9 hg9 r3 hAll hHeld
  go_wp2_with fail
  exact ⟨rfl, _, results_row_tmp rfl _ _ w.heap.size 65 _ (0, 0) _ rfl R9.out Try.underlying65 rfl size_fd _ rfl, by rw [hG.out]; rfl, hb9⟩
end Go.Proofs.Ythiebbhooigogaa
