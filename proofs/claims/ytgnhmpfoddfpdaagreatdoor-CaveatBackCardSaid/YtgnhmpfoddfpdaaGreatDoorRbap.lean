/- Texts of this claim, one behind the other. -/
import Derived.Test.YtgnhmpfoddfpdaaGreatDoorRbao
/- LAYER 17, CaveatBack: the walk of the law. -/
namespace Go.Proofs.YtgnhmpfoddfpdaaGreatDoor
set_option maxRecDepth 100000
open Go Go.RowKit

theorem parseP_nil : parseP [] = none := rfl
theorem textP_len17 (p : Prd) : (textP p).length ≤ 2000 := by
  by_cases h : textP p = []
  · rw [h]; simp
  · obtain ⟨-, -, h2, h3⟩ := textP_ne p h
    rw [h3, List.length_append, List.length_cons]; omega
set_option maxHeartbeats 8000000 in
theorem qb_00 (p q : Prd) (A B : Option Addr) (c d : Nat) (s : List UInt8) (w : World) (hp : PrdArg w p A c) (hq : PrdArg w q B d) (hE0 : EnvQ w) (hlp : p.path.length + sumS p.names ≤ 3000) (hlq : q.path.length + sumS q.names ≤ 3000) (hl : s.length ≤ 2000) (fp : textP p = []) (hy : parseP s = none) :
    Calls Tryz.prog 4 #[.agg (prdV p A c).toArray, .agg (prdV q B d).toArray, .string (bstr s)] w fun e w' => e = .returned (.bool true) ∧ Below w.heap.size w w' := by
  have hal := Lib.hid (fun w' hE => qalive_any w' hE)
  have hzs := size_bstr s
  have hXQ := Lib.hid (prd23 p hp.ok.net.a A c)
  have hXP := Lib.hid (prd23 q hq.ok.net.a B d)
  obtain ⟨Q, hQ⟩ : ∃ Q, Q = prdV p A c := ⟨_, rfl⟩
  obtain ⟨P, hP⟩ : ∃ P, P = prdV q B d := ⟨_, rfl⟩
  obtain ⟨w1, hw1⟩ : ∃ w1, w1 = (w.alloc (.cells Q.toArray 31)).alloc (.cells P.toArray 31) := ⟨_, rfl⟩
  obtain ⟨r1, q1, hb0⟩ := two_prds hw1.symm
  have hE0 := hE0.next hb0
  have a1 := hp.later (Nat.le_refl _) hb0
  have b1 := hq.later (Nat.le_refl _) hb0
  have HLP := fun w' (h : PrdArg w' p A c) => qlong_any p A c w' h
  have HLQ := fun w' (h : PrdArg w' q B d) => qlong_any q B d w' h
  have HW := Lib.hid hw1
  have tokP : True := trivial
  have tokQ : True := trivial
  have hl' : (s.length : Int) ≤ 2000 := by omega
  have HT := Lib.hid (fun w' (h : PrdArg w' p A c) (hE : EnvQ w') => qtext_any p A c w' (h.short hlp) hE)
  have HTq := Lib.hid (fun w' (h : PrdArg w' q B d) (hE : EnvQ w') => qtext_any q B d w' (h.short hlq) hE)
  have HC := fun w' (h : PrdArg w' p A c) (hE : EnvQ w') => qcheck_any p A c w' (h.short hlp) hE
  have HCq := fun w' (h : PrdArg w' q B d) (hE : EnvQ w') => qcheck_any q B d w' (h.short hlq) hE
  have HPA := fun w' (hE : EnvQ w') => qparse_any (textP p) (textP_len17 p) w' hE
  have HPS := fun w' (hE : EnvQ w') => qparse_any s hl w' hE
  have HS := fun w' (h : PrdArg w' p A c) (h2 : PrdArg w' q B d) (hE : EnvQ w') => qsame_any p q A B c d w' (h.short hlp) (h2.short hlq) hE
  rw [longQ_zero p hlp] at HLP
  rw [longQ_zero q hlq] at HLQ
  rw [hy] at HPS
  rw [fp] at HT
  rw [fp, parseP_nil] at HPA
  rw [decide_eq_true fp] at HC
  have HCY := fun w' Ay cy (h : PrdAt w' zeroP Ay cy) (hE : EnvQ w') => qcheck_any zeroP Ay cy w' h hE
  rw [show textP zeroP = [] by decide] at HCY
  have HCY := Lib.hid HCY
  have HSY := Lib.hid (fun w' Ay cy (h : PrdAt w' zeroP Ay cy) (hE : EnvQ w') => show Calls Tryz.prog 13 #[.agg (prdV zeroP Ay cy).toArray, .agg #[Value.int .i64 0, .int .u64 0, .slice none 0 0, .string { data := #[] }, .bool false, .int .u8 0, .int .u8 0, .int .u8 0, .int .u8 0, .int .u8 0, .int .u8 0, .int .u8 0, .int .u8 0, .int .u8 0, .int .u8 0, .int .u8 0, .int .u8 0, .int .u8 0, .int .u8 0, .int .u8 0, .int .u8 0, .int .i64 0, .float .f64 0]] w' fun e w'' => e = .returned (.bool true) ∧ Below w'.heap.size w' w'' from (sameP_iff zeroP zeroP).2 rfl ▸ qsame_any zeroP zeroP Ay none cy 0 w' h (zero_at w') hE)
  have HC := Lib.hid HC
  have HCq := Lib.hid HCq
  have HPA := Lib.hid HPA
  have HPS := Lib.hid HPS
  have HS := Lib.hid HS
  have HLP := Lib.hid HLP
  have HLQ := Lib.hid HLQ
  rw [← hQ] at hXQ HLP HT HC HS ⊢
  rw [← hP] at hXP HLQ HTq HCq HS ⊢
  clear hw1 hp hq hQ hP hlp hlq hl fp hy
  generalize bstr (textP q) = TQ at *
  generalize bstr [] = TP at *
  clear HS HCq
  generalize bstr s = S at *
  have tk1 : True := trivial
  have tk2 : True := trivial
  have tk3 : True := trivial
  have tk4 : True := trivial
  have tk5 : True := trivial
  go_enter Tryz.func4, Tryz.ntmps4
  go_wp2_with (first
    | (go_at_call 5; rw [← HW.out]; refine (hal.out _ hE0).mono ?_; rintro e w9 ⟨rfl, hq⟩; have hE0 := hE0.next hq; have r1 := r1.later hq r1.lt; have q1 := q1.later hq q1.lt; have a1 := a1.later (Nat.le_refl _) hq; have b1 := b1.later (Nat.le_refl _) hq; have hb0 := hb0.trans (hq.mono hb0.size); clear hq)
    | ((with_reducible refine wpList_step fun K hK => ?_); refine step_load_mid (some 15) rfl (by rfl) 31 (.tmp 3) rfl w.heap.size 0 rfl Q _ (row_range r1) Tryz.underlying31 rfl hXQ.out.z ?_; refine hK _ _ ?_; clear hK)
    | (go_at_call 6; have _t := tokP; refine (HLP.out _ a1).mono ?_; rintro e w9 ⟨rfl, hq⟩; have hE0 := hE0.next hq; have r1 := r1.later hq r1.lt; have q1 := q1.later hq q1.lt; have a1 := a1.later (Nat.le_refl _) hq; have b1 := b1.later (Nat.le_refl _) hq; have hb0 := hb0.trans (hq.mono hb0.size); clear hq; clear tokP)
    | ((with_reducible refine wpList_step fun K hK => ?_); refine step_load_mid (some 19) rfl (by rfl) 31 (.tmp 4) rfl (w.heap.size + 1) 0 rfl P _ (row_range q1) Tryz.underlying31 rfl hXP.out.z ?_; refine hK _ _ ?_; clear hK)
    | (go_at_call 6; have _t := tokQ; refine (HLQ.out _ b1).mono ?_; rintro e w4 ⟨rfl, hq⟩; have hE0 := hE0.next hq; have r1 := r1.later hq r1.lt; have q1 := q1.later hq q1.lt; have a1 := a1.later (Nat.le_refl _) hq; have b1 := b1.later (Nat.le_refl _) hq; have hb0 := hb0.trans (hq.mono hb0.size); clear hq; clear tokQ))
  go_wp2
  refine wp_region_noPanic ?_
  refine wp_region_held_drew (S := fun w' => Below w4.heap.size w4 w') (by kernel_rfl) ((Below.refl _ _).drew) (fun hHeld => ?_)
  have hB := hHeld
  refine rtake 0 _ (some 28) _ rfl rfl (by kernel_rfl) (by kernel_rfl) (by kernel_rfl) (fun _ _ _ h => h) (by rfl) hHeld (by intro w hS; exact run_load_op 31 (.tmp 3) rfl _ 0 rfl Q _ (row_range (r1.later hS r1.lt)) Tryz.underlying31 rfl hXQ.out.z) ?_
  try (first | (rw [put_some]; dsimp only [List.set]) | rw [put_none])
  refine rtake 2 _ (some 30) _ rfl rfl (by kernel_rfl) (by kernel_rfl) (by kernel_rfl) (fun _ _ _ h => h) (by rfl) hHeld (by intro w hS; exact run_load_op 31 (.tmp 4) rfl _ 0 rfl P _ (row_range (q1.later hS q1.lt)) Tryz.underlying31 rfl hXP.out.z) ?_
  try (first | (rw [put_some]; dsimp only [List.set]) | rw [put_none])
  refine wpAnyH_ready (rs := [1]) (by kernel_rfl) (by simp) (AllReadyH.cons (o := _) rfl (fun K hK => ?_) AllReadyH.nil)
  go_simp
  refine (HT.out _ (a1.later (Nat.le_refl _) hB) (hE0.next hB)).mono ?_; rintro e ww41 ⟨rfl, hqw41⟩
  try go_wp2_with fail
  refine hK.out _ _ (hHeld.trans (hqw41.mono hHeld.size)) (fun hHeld' => ?_)
  clear hK K
  try (first | (rw [put_some]; dsimp only [List.set]) | rw [put_none])
  have hB := below_step hB hqw41
  have hB1 : Below ww41.heap.size ww41 ww41 := Below.refl _ _
  refine wpAnyH_narrow (S' := fun w' => Below ww41.heap.size ww41 w') (fun _ h => (hHeld.trans (hqw41.mono hHeld.size)).trans (h.mono (hHeld.trans (hqw41.mono hHeld.size)).size)) _ _ _ _ ?_
  clear hHeld
  have hHeld : Below ww41.heap.size ww41 ww41 := Below.refl _ _
  refine wpAnyH_ready (rs := [3]) (by kernel_rfl) (by simp) (AllReadyH.cons (o := _) rfl (fun K hK => ?_) AllReadyH.nil)
  go_simp
  refine (HTq.out _ (b1.later (Nat.le_refl _) hB) (hE0.next hB)).mono ?_; rintro e ww43 ⟨rfl, hqw43⟩
  try go_wp2_with fail
  refine hK.out _ _ (hHeld.trans (hqw43.mono hHeld.size)) (fun hHeld' => ?_)
  clear hK K
  try (first | (rw [put_some]; dsimp only [List.set]) | rw [put_none])
  have hB := below_step hB hqw43
  have hB1 := below_step hB1 hqw43
  have hB3 : Below ww43.heap.size ww43 ww43 := Below.refl _ _
  refine wpAnyH_narrow (S' := fun w' => Below ww43.heap.size ww43 w') (fun _ h => (hHeld.trans (hqw43.mono hHeld.size)).trans (h.mono (hHeld.trans (hqw43.mono hHeld.size)).size)) _ _ _ _ ?_
  clear hHeld
  have hHeld : Below ww43.heap.size ww43 ww43 := Below.refl _ _
  refine rtake 4 _ (some 7) _ rfl rfl (by kernel_rfl) (by kernel_rfl) (by kernel_rfl) (fun _ _ _ h => h) (by rfl) hHeld (by intro w hS; go_simp; try with_reducible rfl) ?_
  try (first | (rw [put_some]; dsimp only [List.set]) | rw [put_none])
  refine rtake 5 _ (some 8) _ rfl rfl (by kernel_rfl) (by kernel_rfl) (by kernel_rfl) (fun _ _ _ h => h) (by rfl) hHeld (by intro w hS; go_simp; try with_reducible rfl) ?_
  try (first | (rw [put_some]; dsimp only [List.set]) | rw [put_none])
  refine wpAnyH_done (by kernel_rfl) ?_ _
  refine NoPanic.normal ?_
  have hq := hB
  clear hHeld
  clear hB
  have hE0 := hE0.next hq
  have r1 := r1.later hq r1.lt
  have q1 := q1.later hq q1.lt
  have a1 := a1.later (Nat.le_refl _) hq
  have b1 := b1.later (Nat.le_refl _) hq
  have hb0 := hb0.trans (hq.mono hb0.size)
  clear hq
  go_wp2_with (first
    | (go_at_call 7; have _t := tk1; refine (HPA.out _ hE0).mono ?_; intro e w5 hgv; obtain ⟨Ax, cx, rfl, ax, hq⟩ := gave_none hgv; clear hgv; have hXX := Lib.hid (prd23 zeroP ax.ok.net.a Ax cx); have hE0 := hE0.next hq; have r1 := r1.later hq r1.lt; have q1 := q1.later hq q1.lt; have a1 := a1.later (Nat.le_refl _) hq; have b1 := b1.later (Nat.le_refl _) hq; have hb0 := hb0.trans (hq.mono hb0.size); clear hq; clear tk1)
    | (have _t := hXX; refine wpList_store_row rfl 31 (.tmp 9) (.tmp 35) rfl w5.heap.size (prdV zeroP Ax cx).toArray rfl rfl 31 _ (heap_alloc_new w5 _) hXX.out.z2 hXX.out.z8 hXX.out.o ?_; refine Hid.out ?_))
  refine Lib.hid ?_
  generalize hww : World.setRow _ _ _ = w6
  obtain ⟨x1, hq⟩ := row_new_set (xs := prdV zeroP Ax cx) hww
  have hE0 := hE0.next hq; have r1 := r1.later hq r1.lt; have q1 := q1.later hq q1.lt; have a1 := a1.later (Nat.le_refl _) hq; have b1 := b1.later (Nat.le_refl _) hq; have ax := ax.later (Nat.le_refl _) hq; have hb0 := hb0.trans (hq.mono hb0.size); clear hq
  clear hww
  generalize w5.heap.size = g9 at *
  obtain ⟨X, hX⟩ : ∃ X, X = prdV zeroP Ax cx := ⟨_, rfl⟩
  rw [← hX] at hXX x1
  clear hX
  go_wp2_with (first
    | ((with_reducible refine wpList_step fun K hK => ?_); refine step_load_mid (some 38) rfl (by rfl) 31 (.tmp 3) rfl w.heap.size 0 rfl Q _ (row_range r1) Tryz.underlying31 rfl hXQ.out.z ?_; refine hK _ _ ?_; clear hK)
    | (go_at_call 11; have _t := tk2; refine (HC.out _ a1 hE0).mono ?_; rintro e w9 ⟨rfl, hq⟩; have hE0 := hE0.next hq; have r1 := r1.later hq r1.lt; have q1 := q1.later hq q1.lt; have x1 := x1.later hq x1.lt; have a1 := a1.later (Nat.le_refl _) hq; have b1 := b1.later (Nat.le_refl _) hq; have ax := ax.later (Nat.le_refl _) hq; have hb0 := hb0.trans (hq.mono hb0.size); clear hq; clear tk2)
    | (go_at_call 7; refine (HPS.out _ hE0).mono ?_; intro e w7 hgv; obtain ⟨Ay, cy, rfl, ay, hq⟩ := gave_none hgv; clear hgv; have hXY := Lib.hid (prd23 zeroP ay.ok.net.a Ay cy); have hE0 := hE0.next hq; have r1 := r1.later hq r1.lt; have q1 := q1.later hq q1.lt; have x1 := x1.later hq x1.lt; have a1 := a1.later (Nat.le_refl _) hq; have b1 := b1.later (Nat.le_refl _) hq; have ax := ax.later (Nat.le_refl _) hq; have hb0 := hb0.trans (hq.mono hb0.size); clear hq)
    | (have _t := hXY; refine wpList_store_row rfl 31 (.tmp 11) (.tmp 69) rfl w7.heap.size (prdV zeroP Ay cy).toArray rfl rfl 31 _ (heap_alloc_new w7 _) hXY.out.z2 hXY.out.z8 hXY.out.o ?_; refine Hid.out ?_))
  refine Lib.hid ?_
  generalize hww : World.setRow _ _ _ = w8
  obtain ⟨y1, hq⟩ := row_new_set (xs := prdV zeroP Ay cy) hww
  have hE0 := hE0.next hq; have r1 := r1.later hq r1.lt; have q1 := q1.later hq q1.lt; have x1 := x1.later hq x1.lt; have a1 := a1.later (Nat.le_refl _) hq; have b1 := b1.later (Nat.le_refl _) hq; have ax := ax.later (Nat.le_refl _) hq; have ay := ay.later (Nat.le_refl _) hq; have hb0 := hb0.trans (hq.mono hb0.size); clear hq
  clear hww
  generalize w7.heap.size = g11 at *
  clear ax x1
  obtain ⟨Y, hY⟩ : ∃ Y, Y = prdV zeroP Ay cy := ⟨_, rfl⟩
  rw [← hY] at hXY y1
  have HCY := fun w' (h : PrdAt w' zeroP Ay cy) h3 => HCY.out w' Ay cy h h3
  rw [← hY] at HCY
  have HCY := Lib.hid HCY
  have HSY := fun w' (h : PrdAt w' zeroP Ay cy) h3 => HSY.out w' Ay cy h h3
  rw [← hY] at HSY
  have HSY := Lib.hid HSY
  clear hY
  have tk6 : True := trivial
  go_wp2_with (first
    | ((with_reducible refine wpList_step fun K hK => ?_); refine step_load_mid (some 74) rfl (by rfl) 31 (.tmp 11) rfl g11 0 rfl Y _ (row_range y1) Tryz.underlying31 rfl hXY.out.z ?_; refine hK _ _ ?_; clear hK)
    | (go_at_call 13; refine (HSY.out _ ay hE0).mono ?_; rintro e w9 ⟨rfl, hq⟩; have hE0 := hE0.next hq; have r1 := r1.later hq r1.lt; have q1 := q1.later hq q1.lt; have y1 := y1.later hq y1.lt; have a1 := a1.later (Nat.le_refl _) hq; have b1 := b1.later (Nat.le_refl _) hq; have ay := ay.later (Nat.le_refl _) hq; have hb0 := hb0.trans (hq.mono hb0.size); clear hq)
    | ((with_reducible refine wpList_step fun K hK => ?_); refine step_load_mid (some 79) rfl (by rfl) 31 (.tmp 11) rfl g11 0 rfl Y _ (row_range y1) Tryz.underlying31 rfl hXY.out.z ?_; refine hK _ _ ?_; clear hK)
    | (go_at_call 11; have _t := tk6; refine (HCY.out _ ay hE0).mono ?_; rintro e w9 ⟨rfl, hq⟩; have hE0 := hE0.next hq; have r1 := r1.later hq r1.lt; have q1 := q1.later hq q1.lt; have y1 := y1.later hq y1.lt; have a1 := a1.later (Nat.le_refl _) hq; have b1 := b1.later (Nat.le_refl _) hq; have ay := ay.later (Nat.le_refl _) hq; have hb0 := hb0.trans (hq.mono hb0.size); clear hq; clear tk6))
  go_ret
  exact ⟨rfl, hb0⟩
set_option maxHeartbeats 8000000 in
theorem qb_01 (p q : Prd) (A B : Option Addr) (c d : Nat) (s : List UInt8) (w : World) (hp : PrdArg w p A c) (hq : PrdArg w q B d) (hE0 : EnvQ w) (hlp : p.path.length + sumS p.names ≤ 3000) (hlq : q.path.length + sumS q.names ≤ 3000) (hl : s.length ≤ 2000) (fp : textP p = []) (y : Prd) (hy : parseP s = some y) :
    Calls Tryz.prog 4 #[.agg (prdV p A c).toArray, .agg (prdV q B d).toArray, .string (bstr s)] w fun e w' => e = .returned (.bool true) ∧ Below w.heap.size w w' := by
  have hal := Lib.hid (fun w' hE => qalive_any w' hE)
  have hzs := size_bstr s
  have hXQ := Lib.hid (prd23 p hp.ok.net.a A c)
  have hXP := Lib.hid (prd23 q hq.ok.net.a B d)
  obtain ⟨Q, hQ⟩ : ∃ Q, Q = prdV p A c := ⟨_, rfl⟩
  obtain ⟨P, hP⟩ : ∃ P, P = prdV q B d := ⟨_, rfl⟩
  obtain ⟨w1, hw1⟩ : ∃ w1, w1 = (w.alloc (.cells Q.toArray 31)).alloc (.cells P.toArray 31) := ⟨_, rfl⟩
  obtain ⟨r1, q1, hb0⟩ := two_prds hw1.symm
  have hE0 := hE0.next hb0
  have a1 := hp.later (Nat.le_refl _) hb0
  have b1 := hq.later (Nat.le_refl _) hb0
  have HLP := fun w' (h : PrdArg w' p A c) => qlong_any p A c w' h
  have HLQ := fun w' (h : PrdArg w' q B d) => qlong_any q B d w' h
  have HW := Lib.hid hw1
  have tokP : True := trivial
  have tokQ : True := trivial
  have hl' : (s.length : Int) ≤ 2000 := by omega
  have HT := Lib.hid (fun w' (h : PrdArg w' p A c) (hE : EnvQ w') => qtext_any p A c w' (h.short hlp) hE)
  have HTq := Lib.hid (fun w' (h : PrdArg w' q B d) (hE : EnvQ w') => qtext_any q B d w' (h.short hlq) hE)
  have HC := fun w' (h : PrdArg w' p A c) (hE : EnvQ w') => qcheck_any p A c w' (h.short hlp) hE
  have HCq := fun w' (h : PrdArg w' q B d) (hE : EnvQ w') => qcheck_any q B d w' (h.short hlq) hE
  have HPA := fun w' (hE : EnvQ w') => qparse_any (textP p) (textP_len17 p) w' hE
  have HPS := fun w' (hE : EnvQ w') => qparse_any s hl w' hE
  have HS := fun w' (h : PrdArg w' p A c) (h2 : PrdArg w' q B d) (hE : EnvQ w') => qsame_any p q A B c d w' (h.short hlp) (h2.short hlq) hE
  rw [longQ_zero p hlp] at HLP
  rw [longQ_zero q hlq] at HLQ
  rw [hy] at HPS
  rw [fp] at HT
  rw [fp, parseP_nil] at HPA
  rw [decide_eq_true fp] at HC
  obtain ⟨y1, y2, y3⟩ := (parseP_iff s y).1 hy
  have HTY := fun w' Ay cy (h : PrdAt w' y Ay cy) (hE : EnvQ w') => qtext_any y Ay cy w' h hE
  have HCY := fun w' Ay cy (h : PrdAt w' y Ay cy) (hE : EnvQ w') => qcheck_any y Ay cy w' h hE
  rw [y2] at HTY HCY
  rw [decide_eq_false y3] at HCY
  have HTY := Lib.hid HTY
  have HCY := Lib.hid HCY
  have hss : ((bstr s).toList == (bstr s).toList) = true := beq_self_eq_true _
  clear y1 y2 y3
  have HC := Lib.hid HC
  have HCq := Lib.hid HCq
  have HPA := Lib.hid HPA
  have HPS := Lib.hid HPS
  have HS := Lib.hid HS
  have HLP := Lib.hid HLP
  have HLQ := Lib.hid HLQ
  rw [← hQ] at hXQ HLP HT HC HS ⊢
  rw [← hP] at hXP HLQ HTq HCq HS ⊢
  clear hw1 hp hq hQ hP hlp hlq hl fp hy
  generalize bstr (textP q) = TQ at *
  generalize bstr [] = TP at *
  clear HS HCq
  generalize bstr s = S at *
  have tk1 : True := trivial
  have tk2 : True := trivial
  have tk3 : True := trivial
  have tk4 : True := trivial
  have tk5 : True := trivial
  go_enter Tryz.func4, Tryz.ntmps4
  go_wp2_with (first
    | (go_at_call 5; rw [← HW.out]; refine (hal.out _ hE0).mono ?_; rintro e w9 ⟨rfl, hq⟩; have hE0 := hE0.next hq; have r1 := r1.later hq r1.lt; have q1 := q1.later hq q1.lt; have a1 := a1.later (Nat.le_refl _) hq; have b1 := b1.later (Nat.le_refl _) hq; have hb0 := hb0.trans (hq.mono hb0.size); clear hq)
    | ((with_reducible refine wpList_step fun K hK => ?_); refine step_load_mid (some 15) rfl (by rfl) 31 (.tmp 3) rfl w.heap.size 0 rfl Q _ (row_range r1) Tryz.underlying31 rfl hXQ.out.z ?_; refine hK _ _ ?_; clear hK)
    | (go_at_call 6; have _t := tokP; refine (HLP.out _ a1).mono ?_; rintro e w9 ⟨rfl, hq⟩; have hE0 := hE0.next hq; have r1 := r1.later hq r1.lt; have q1 := q1.later hq q1.lt; have a1 := a1.later (Nat.le_refl _) hq; have b1 := b1.later (Nat.le_refl _) hq; have hb0 := hb0.trans (hq.mono hb0.size); clear hq; clear tokP)
    | ((with_reducible refine wpList_step fun K hK => ?_); refine step_load_mid (some 19) rfl (by rfl) 31 (.tmp 4) rfl (w.heap.size + 1) 0 rfl P _ (row_range q1) Tryz.underlying31 rfl hXP.out.z ?_; refine hK _ _ ?_; clear hK)
    | (go_at_call 6; have _t := tokQ; refine (HLQ.out _ b1).mono ?_; rintro e w4 ⟨rfl, hq⟩; have hE0 := hE0.next hq; have r1 := r1.later hq r1.lt; have q1 := q1.later hq q1.lt; have a1 := a1.later (Nat.le_refl _) hq; have b1 := b1.later (Nat.le_refl _) hq; have hb0 := hb0.trans (hq.mono hb0.size); clear hq; clear tokQ))
  go_wp2
  refine wp_region_noPanic ?_
  refine wp_region_held_drew (S := fun w' => Below w4.heap.size w4 w') (by kernel_rfl) ((Below.refl _ _).drew) (fun hHeld => ?_)
  have hB := hHeld
  refine rtake 0 _ (some 28) _ rfl rfl (by kernel_rfl) (by kernel_rfl) (by kernel_rfl) (fun _ _ _ h => h) (by rfl) hHeld (by intro w hS; exact run_load_op 31 (.tmp 3) rfl _ 0 rfl Q _ (row_range (r1.later hS r1.lt)) Tryz.underlying31 rfl hXQ.out.z) ?_
  try (first | (rw [put_some]; dsimp only [List.set]) | rw [put_none])
  refine rtake 2 _ (some 30) _ rfl rfl (by kernel_rfl) (by kernel_rfl) (by kernel_rfl) (fun _ _ _ h => h) (by rfl) hHeld (by intro w hS; exact run_load_op 31 (.tmp 4) rfl _ 0 rfl P _ (row_range (q1.later hS q1.lt)) Tryz.underlying31 rfl hXP.out.z) ?_
  try (first | (rw [put_some]; dsimp only [List.set]) | rw [put_none])
  refine wpAnyH_ready (rs := [1]) (by kernel_rfl) (by simp) (AllReadyH.cons (o := _) rfl (fun K hK => ?_) AllReadyH.nil)
  go_simp
  refine (HT.out _ (a1.later (Nat.le_refl _) hB) (hE0.next hB)).mono ?_; rintro e ww41 ⟨rfl, hqw41⟩
  try go_wp2_with fail
  refine hK.out _ _ (hHeld.trans (hqw41.mono hHeld.size)) (fun hHeld' => ?_)
  clear hK K
  try (first | (rw [put_some]; dsimp only [List.set]) | rw [put_none])
  have hB := below_step hB hqw41
  have hB1 : Below ww41.heap.size ww41 ww41 := Below.refl _ _
  refine wpAnyH_narrow (S' := fun w' => Below ww41.heap.size ww41 w') (fun _ h => (hHeld.trans (hqw41.mono hHeld.size)).trans (h.mono (hHeld.trans (hqw41.mono hHeld.size)).size)) _ _ _ _ ?_
  clear hHeld
  have hHeld : Below ww41.heap.size ww41 ww41 := Below.refl _ _
  refine wpAnyH_ready (rs := [3]) (by kernel_rfl) (by simp) (AllReadyH.cons (o := _) rfl (fun K hK => ?_) AllReadyH.nil)
  go_simp
  refine (HTq.out _ (b1.later (Nat.le_refl _) hB) (hE0.next hB)).mono ?_; rintro e ww43 ⟨rfl, hqw43⟩
  try go_wp2_with fail
  refine hK.out _ _ (hHeld.trans (hqw43.mono hHeld.size)) (fun hHeld' => ?_)
  clear hK K
  try (first | (rw [put_some]; dsimp only [List.set]) | rw [put_none])
  have hB := below_step hB hqw43
  have hB1 := below_step hB1 hqw43
  have hB3 : Below ww43.heap.size ww43 ww43 := Below.refl _ _
  refine wpAnyH_narrow (S' := fun w' => Below ww43.heap.size ww43 w') (fun _ h => (hHeld.trans (hqw43.mono hHeld.size)).trans (h.mono (hHeld.trans (hqw43.mono hHeld.size)).size)) _ _ _ _ ?_
  clear hHeld
  have hHeld : Below ww43.heap.size ww43 ww43 := Below.refl _ _
  refine rtake 4 _ (some 7) _ rfl rfl (by kernel_rfl) (by kernel_rfl) (by kernel_rfl) (fun _ _ _ h => h) (by rfl) hHeld (by intro w hS; go_simp; try with_reducible rfl) ?_
  try (first | (rw [put_some]; dsimp only [List.set]) | rw [put_none])
  refine rtake 5 _ (some 8) _ rfl rfl (by kernel_rfl) (by kernel_rfl) (by kernel_rfl) (fun _ _ _ h => h) (by rfl) hHeld (by intro w hS; go_simp; try with_reducible rfl) ?_
  try (first | (rw [put_some]; dsimp only [List.set]) | rw [put_none])
  refine wpAnyH_done (by kernel_rfl) ?_ _
  refine NoPanic.normal ?_
  have hq := hB
  clear hHeld
  clear hB
  have hE0 := hE0.next hq
  have r1 := r1.later hq r1.lt
  have q1 := q1.later hq q1.lt
  have a1 := a1.later (Nat.le_refl _) hq
  have b1 := b1.later (Nat.le_refl _) hq
  have hb0 := hb0.trans (hq.mono hb0.size)
  clear hq
  go_wp2_with (first
    | (go_at_call 7; have _t := tk1; refine (HPA.out _ hE0).mono ?_; intro e w5 hgv; obtain ⟨Ax, cx, rfl, ax, hq⟩ := gave_none hgv; clear hgv; have hXX := Lib.hid (prd23 zeroP ax.ok.net.a Ax cx); have hE0 := hE0.next hq; have r1 := r1.later hq r1.lt; have q1 := q1.later hq q1.lt; have a1 := a1.later (Nat.le_refl _) hq; have b1 := b1.later (Nat.le_refl _) hq; have hb0 := hb0.trans (hq.mono hb0.size); clear hq; clear tk1)
    | (have _t := hXX; refine wpList_store_row rfl 31 (.tmp 9) (.tmp 35) rfl w5.heap.size (prdV zeroP Ax cx).toArray rfl rfl 31 _ (heap_alloc_new w5 _) hXX.out.z2 hXX.out.z8 hXX.out.o ?_; refine Hid.out ?_))
  refine Lib.hid ?_
  generalize hww : World.setRow _ _ _ = w6
  obtain ⟨x1, hq⟩ := row_new_set (xs := prdV zeroP Ax cx) hww
  have hE0 := hE0.next hq; have r1 := r1.later hq r1.lt; have q1 := q1.later hq q1.lt; have a1 := a1.later (Nat.le_refl _) hq; have b1 := b1.later (Nat.le_refl _) hq; have ax := ax.later (Nat.le_refl _) hq; have hb0 := hb0.trans (hq.mono hb0.size); clear hq
  clear hww
  generalize w5.heap.size = g9 at *
  obtain ⟨X, hX⟩ : ∃ X, X = prdV zeroP Ax cx := ⟨_, rfl⟩
  rw [← hX] at hXX x1
  clear hX
  go_wp2_with (first
    | ((with_reducible refine wpList_step fun K hK => ?_); refine step_load_mid (some 38) rfl (by rfl) 31 (.tmp 3) rfl w.heap.size 0 rfl Q _ (row_range r1) Tryz.underlying31 rfl hXQ.out.z ?_; refine hK _ _ ?_; clear hK)
    | (go_at_call 11; have _t := tk2; refine (HC.out _ a1 hE0).mono ?_; rintro e w9 ⟨rfl, hq⟩; have hE0 := hE0.next hq; have r1 := r1.later hq r1.lt; have q1 := q1.later hq q1.lt; have x1 := x1.later hq x1.lt; have a1 := a1.later (Nat.le_refl _) hq; have b1 := b1.later (Nat.le_refl _) hq; have ax := ax.later (Nat.le_refl _) hq; have hb0 := hb0.trans (hq.mono hb0.size); clear hq; clear tk2)
    | (go_at_call 7; refine (HPS.out _ hE0).mono ?_; intro e w7 hgv; obtain ⟨Ay, cy, rfl, ay, hq⟩ := gave_some hgv; clear hgv; have hXY := Lib.hid (prd23 y ay.ok.net.a Ay cy); have hE0 := hE0.next hq; have r1 := r1.later hq r1.lt; have q1 := q1.later hq q1.lt; have x1 := x1.later hq x1.lt; have a1 := a1.later (Nat.le_refl _) hq; have b1 := b1.later (Nat.le_refl _) hq; have ax := ax.later (Nat.le_refl _) hq; have hb0 := hb0.trans (hq.mono hb0.size); clear hq)
    | (have _t := hXY; refine wpList_store_row rfl 31 (.tmp 11) (.tmp 69) rfl w7.heap.size (prdV y Ay cy).toArray rfl rfl 31 _ (heap_alloc_new w7 _) hXY.out.z2 hXY.out.z8 hXY.out.o ?_; refine Hid.out ?_))
  refine Lib.hid ?_
  generalize hww : World.setRow _ _ _ = w8
  obtain ⟨y1, hq⟩ := row_new_set (xs := prdV y Ay cy) hww
  have hE0 := hE0.next hq; have r1 := r1.later hq r1.lt; have q1 := q1.later hq q1.lt; have x1 := x1.later hq x1.lt; have a1 := a1.later (Nat.le_refl _) hq; have b1 := b1.later (Nat.le_refl _) hq; have ax := ax.later (Nat.le_refl _) hq; have ay := ay.later (Nat.le_refl _) hq; have hb0 := hb0.trans (hq.mono hb0.size); clear hq
  clear hww
  generalize w7.heap.size = g11 at *
  clear ax x1
  obtain ⟨Y, hY⟩ : ∃ Y, Y = prdV y Ay cy := ⟨_, rfl⟩
  rw [← hY] at hXY y1
  have HCY := fun w' (h : PrdAt w' y Ay cy) h3 => HCY.out w' Ay cy h h3
  rw [← hY] at HCY
  have HCY := Lib.hid HCY
  have HTY := fun w' (h : PrdAt w' y Ay cy) h3 => HTY.out w' Ay cy h h3
  rw [← hY] at HTY
  have HTY := Lib.hid HTY
  clear hY
  have tk6 : True := trivial
  go_wp2_with (first
    | ((with_reducible refine wpList_step fun K hK => ?_); refine step_load_mid (some 86) rfl (by rfl) 31 (.tmp 11) rfl g11 0 rfl Y _ (row_range y1) Tryz.underlying31 rfl hXY.out.z ?_; refine hK _ _ ?_; clear hK)
    | (go_at_call 9; refine (HTY.out _ ay hE0).mono ?_; rintro e w9 ⟨rfl, hq⟩; have hE0 := hE0.next hq; have r1 := r1.later hq r1.lt; have q1 := q1.later hq q1.lt; have y1 := y1.later hq y1.lt; have a1 := a1.later (Nat.le_refl _) hq; have b1 := b1.later (Nat.le_refl _) hq; have ay := ay.later (Nat.le_refl _) hq; have hb0 := hb0.trans (hq.mono hb0.size); clear hq)
    | ((with_reducible refine wpList_step fun K hK => ?_); refine step_load_mid (some 92) rfl (by rfl) 31 (.tmp 11) rfl g11 0 rfl Y _ (row_range y1) Tryz.underlying31 rfl hXY.out.z ?_; refine hK _ _ ?_; clear hK)
    | (go_at_call 11; have _t := tk6; refine (HCY.out _ ay hE0).mono ?_; rintro e w9 ⟨rfl, hq⟩; have hE0 := hE0.next hq; have r1 := r1.later hq r1.lt; have q1 := q1.later hq q1.lt; have y1 := y1.later hq y1.lt; have a1 := a1.later (Nat.le_refl _) hq; have b1 := b1.later (Nat.le_refl _) hq; have ay := ay.later (Nat.le_refl _) hq; have hb0 := hb0.trans (hq.mono hb0.size); clear hq; clear tk6))
  go_ret
  exact ⟨rfl, hb0⟩
set_option maxHeartbeats 8000000 in
theorem qb_10 (p q : Prd) (A B : Option Addr) (c d : Nat) (s : List UInt8) (w : World) (hp : PrdArg w p A c) (hq : PrdArg w q B d) (hE0 : EnvQ w) (hlp : p.path.length + sumS p.names ≤ 3000) (hlq : q.path.length + sumS q.names ≤ 3000) (hl : s.length ≤ 2000) (fp : textP p ≠ []) (fq : textP q = []) (hy : parseP s = none) :
    Calls Tryz.prog 4 #[.agg (prdV p A c).toArray, .agg (prdV q B d).toArray, .string (bstr s)] w fun e w' => e = .returned (.bool true) ∧ Below w.heap.size w w' := by
  have hal := Lib.hid (fun w' hE => qalive_any w' hE)
  have hzs := size_bstr s
  have hXQ := Lib.hid (prd23 p hp.ok.net.a A c)
  have hXP := Lib.hid (prd23 q hq.ok.net.a B d)
  obtain ⟨Q, hQ⟩ : ∃ Q, Q = prdV p A c := ⟨_, rfl⟩
  obtain ⟨P, hP⟩ : ∃ P, P = prdV q B d := ⟨_, rfl⟩
  obtain ⟨w1, hw1⟩ : ∃ w1, w1 = (w.alloc (.cells Q.toArray 31)).alloc (.cells P.toArray 31) := ⟨_, rfl⟩
  obtain ⟨r1, q1, hb0⟩ := two_prds hw1.symm
  have hE0 := hE0.next hb0
  have a1 := hp.later (Nat.le_refl _) hb0
  have b1 := hq.later (Nat.le_refl _) hb0
  have HLP := fun w' (h : PrdArg w' p A c) => qlong_any p A c w' h
  have HLQ := fun w' (h : PrdArg w' q B d) => qlong_any q B d w' h
  have HW := Lib.hid hw1
  have tokP : True := trivial
  have tokQ : True := trivial
  have hl' : (s.length : Int) ≤ 2000 := by omega
  have HT := Lib.hid (fun w' (h : PrdArg w' p A c) (hE : EnvQ w') => qtext_any p A c w' (h.short hlp) hE)
  have HTq := Lib.hid (fun w' (h : PrdArg w' q B d) (hE : EnvQ w') => qtext_any q B d w' (h.short hlq) hE)
  have HC := fun w' (h : PrdArg w' p A c) (hE : EnvQ w') => qcheck_any p A c w' (h.short hlp) hE
  have HCq := fun w' (h : PrdArg w' q B d) (hE : EnvQ w') => qcheck_any q B d w' (h.short hlq) hE
  have HPA := fun w' (hE : EnvQ w') => qparse_any (textP p) (textP_len17 p) w' hE
  have HPS := fun w' (hE : EnvQ w') => qparse_any s hl w' hE
  have HS := fun w' (h : PrdArg w' p A c) (h2 : PrdArg w' q B d) (hE : EnvQ w') => qsame_any p q A B c d w' (h.short hlp) (h2.short hlq) hE
  rw [longQ_zero p hlp] at HLP
  rw [longQ_zero q hlq] at HLQ
  rw [hy] at HPS
  rw [(parseP_iff _ p).2 ⟨hp.ok, rfl, fp⟩] at HPA
  rw [decide_eq_false fp] at HC
  have HSX := Lib.hid (fun w' Ax cx (h : PrdAt w' p Ax cx) (h2 : PrdArg w' p A c) (hE : EnvQ w') => (sameP_iff p p).2 rfl ▸ qsame_any p p Ax A cx c w' h (h2.short hlp) hE)
  rw [decide_eq_true fq] at HCq
  have HCY := fun w' Ay cy (h : PrdAt w' zeroP Ay cy) (hE : EnvQ w') => qcheck_any zeroP Ay cy w' h hE
  rw [show textP zeroP = [] by decide] at HCY
  have HCY := Lib.hid HCY
  have HSY := Lib.hid (fun w' Ay cy (h : PrdAt w' zeroP Ay cy) (hE : EnvQ w') => show Calls Tryz.prog 13 #[.agg (prdV zeroP Ay cy).toArray, .agg #[Value.int .i64 0, .int .u64 0, .slice none 0 0, .string { data := #[] }, .bool false, .int .u8 0, .int .u8 0, .int .u8 0, .int .u8 0, .int .u8 0, .int .u8 0, .int .u8 0, .int .u8 0, .int .u8 0, .int .u8 0, .int .u8 0, .int .u8 0, .int .u8 0, .int .u8 0, .int .u8 0, .int .u8 0, .int .i64 0, .float .f64 0]] w' fun e w'' => e = .returned (.bool true) ∧ Below w'.heap.size w' w'' from (sameP_iff zeroP zeroP).2 rfl ▸ qsame_any zeroP zeroP Ay none cy 0 w' h (zero_at w') hE)
  have HC := Lib.hid HC
  have HCq := Lib.hid HCq
  have HPA := Lib.hid HPA
  have HPS := Lib.hid HPS
  have HS := Lib.hid HS
  have HLP := Lib.hid HLP
  have HLQ := Lib.hid HLQ
  rw [← hQ] at hXQ HLP HT HC HS HSX ⊢
  rw [← hP] at hXP HLQ HTq HCq HS ⊢
  clear hw1 hp hq hQ hP hlp hlq hl fp hy fq
  generalize bstr (textP p) = TP at *
  generalize bstr (textP q) = TQ at *
  clear HS
  generalize bstr s = S at *
  have tk1 : True := trivial
  have tk2 : True := trivial
  have tk3 : True := trivial
  have tk4 : True := trivial
  have tk5 : True := trivial
  go_enter Tryz.func4, Tryz.ntmps4
  go_wp2_with (first
    | (go_at_call 5; rw [← HW.out]; refine (hal.out _ hE0).mono ?_; rintro e w9 ⟨rfl, hq⟩; have hE0 := hE0.next hq; have r1 := r1.later hq r1.lt; have q1 := q1.later hq q1.lt; have a1 := a1.later (Nat.le_refl _) hq; have b1 := b1.later (Nat.le_refl _) hq; have hb0 := hb0.trans (hq.mono hb0.size); clear hq)
    | ((with_reducible refine wpList_step fun K hK => ?_); refine step_load_mid (some 15) rfl (by rfl) 31 (.tmp 3) rfl w.heap.size 0 rfl Q _ (row_range r1) Tryz.underlying31 rfl hXQ.out.z ?_; refine hK _ _ ?_; clear hK)
    | (go_at_call 6; have _t := tokP; refine (HLP.out _ a1).mono ?_; rintro e w9 ⟨rfl, hq⟩; have hE0 := hE0.next hq; have r1 := r1.later hq r1.lt; have q1 := q1.later hq q1.lt; have a1 := a1.later (Nat.le_refl _) hq; have b1 := b1.later (Nat.le_refl _) hq; have hb0 := hb0.trans (hq.mono hb0.size); clear hq; clear tokP)
    | ((with_reducible refine wpList_step fun K hK => ?_); refine step_load_mid (some 19) rfl (by rfl) 31 (.tmp 4) rfl (w.heap.size + 1) 0 rfl P _ (row_range q1) Tryz.underlying31 rfl hXP.out.z ?_; refine hK _ _ ?_; clear hK)
    | (go_at_call 6; have _t := tokQ; refine (HLQ.out _ b1).mono ?_; rintro e w4 ⟨rfl, hq⟩; have hE0 := hE0.next hq; have r1 := r1.later hq r1.lt; have q1 := q1.later hq q1.lt; have a1 := a1.later (Nat.le_refl _) hq; have b1 := b1.later (Nat.le_refl _) hq; have hb0 := hb0.trans (hq.mono hb0.size); clear hq; clear tokQ))
  go_wp2
  refine wp_region_noPanic ?_
  refine wp_region_held_drew (S := fun w' => Below w4.heap.size w4 w') (by kernel_rfl) ((Below.refl _ _).drew) (fun hHeld => ?_)
  have hB := hHeld
  refine rtake 0 _ (some 28) _ rfl rfl (by kernel_rfl) (by kernel_rfl) (by kernel_rfl) (fun _ _ _ h => h) (by rfl) hHeld (by intro w hS; exact run_load_op 31 (.tmp 3) rfl _ 0 rfl Q _ (row_range (r1.later hS r1.lt)) Tryz.underlying31 rfl hXQ.out.z) ?_
  try (first | (rw [put_some]; dsimp only [List.set]) | rw [put_none])
  refine rtake 2 _ (some 30) _ rfl rfl (by kernel_rfl) (by kernel_rfl) (by kernel_rfl) (fun _ _ _ h => h) (by rfl) hHeld (by intro w hS; exact run_load_op 31 (.tmp 4) rfl _ 0 rfl P _ (row_range (q1.later hS q1.lt)) Tryz.underlying31 rfl hXP.out.z) ?_
  try (first | (rw [put_some]; dsimp only [List.set]) | rw [put_none])
  refine wpAnyH_ready (rs := [1]) (by kernel_rfl) (by simp) (AllReadyH.cons (o := _) rfl (fun K hK => ?_) AllReadyH.nil)
  go_simp
  refine (HT.out _ (a1.later (Nat.le_refl _) hB) (hE0.next hB)).mono ?_; rintro e ww41 ⟨rfl, hqw41⟩
  try go_wp2_with fail
  refine hK.out _ _ (hHeld.trans (hqw41.mono hHeld.size)) (fun hHeld' => ?_)
  clear hK K
  try (first | (rw [put_some]; dsimp only [List.set]) | rw [put_none])
  have hB := below_step hB hqw41
  have hB1 : Below ww41.heap.size ww41 ww41 := Below.refl _ _
  refine wpAnyH_narrow (S' := fun w' => Below ww41.heap.size ww41 w') (fun _ h => (hHeld.trans (hqw41.mono hHeld.size)).trans (h.mono (hHeld.trans (hqw41.mono hHeld.size)).size)) _ _ _ _ ?_
  clear hHeld
  have hHeld : Below ww41.heap.size ww41 ww41 := Below.refl _ _
  refine wpAnyH_ready (rs := [3]) (by kernel_rfl) (by simp) (AllReadyH.cons (o := _) rfl (fun K hK => ?_) AllReadyH.nil)
  go_simp
  refine (HTq.out _ (b1.later (Nat.le_refl _) hB) (hE0.next hB)).mono ?_; rintro e ww43 ⟨rfl, hqw43⟩
  try go_wp2_with fail
  refine hK.out _ _ (hHeld.trans (hqw43.mono hHeld.size)) (fun hHeld' => ?_)
  clear hK K
  try (first | (rw [put_some]; dsimp only [List.set]) | rw [put_none])
  have hB := below_step hB hqw43
  have hB1 := below_step hB1 hqw43
  have hB3 : Below ww43.heap.size ww43 ww43 := Below.refl _ _
  refine wpAnyH_narrow (S' := fun w' => Below ww43.heap.size ww43 w') (fun _ h => (hHeld.trans (hqw43.mono hHeld.size)).trans (h.mono (hHeld.trans (hqw43.mono hHeld.size)).size)) _ _ _ _ ?_
  clear hHeld
  have hHeld : Below ww43.heap.size ww43 ww43 := Below.refl _ _
  refine rtake 4 _ (some 7) _ rfl rfl (by kernel_rfl) (by kernel_rfl) (by kernel_rfl) (fun _ _ _ h => h) (by rfl) hHeld (by intro w hS; go_simp; try with_reducible rfl) ?_
  try (first | (rw [put_some]; dsimp only [List.set]) | rw [put_none])
  refine rtake 5 _ (some 8) _ rfl rfl (by kernel_rfl) (by kernel_rfl) (by kernel_rfl) (fun _ _ _ h => h) (by rfl) hHeld (by intro w hS; go_simp; try with_reducible rfl) ?_
  try (first | (rw [put_some]; dsimp only [List.set]) | rw [put_none])
  refine wpAnyH_done (by kernel_rfl) ?_ _
  refine NoPanic.normal ?_
  have hq := hB
  clear hHeld
  clear hB
  have hE0 := hE0.next hq
  have r1 := r1.later hq r1.lt
  have q1 := q1.later hq q1.lt
  have a1 := a1.later (Nat.le_refl _) hq
  have b1 := b1.later (Nat.le_refl _) hq
  have hb0 := hb0.trans (hq.mono hb0.size)
  clear hq
  go_wp2_with (first
    | (go_at_call 7; have _t := tk1; refine (HPA.out _ hE0).mono ?_; intro e w5 hgv; obtain ⟨Ax, cx, rfl, ax, hq⟩ := gave_some hgv; clear hgv; have hXX := Lib.hid (prd23 p ax.ok.net.a Ax cx); have hE0 := hE0.next hq; have r1 := r1.later hq r1.lt; have q1 := q1.later hq q1.lt; have a1 := a1.later (Nat.le_refl _) hq; have b1 := b1.later (Nat.le_refl _) hq; have hb0 := hb0.trans (hq.mono hb0.size); clear hq; clear tk1)
    | (have _t := hXX; refine wpList_store_row rfl 31 (.tmp 9) (.tmp 35) rfl w5.heap.size (prdV p Ax cx).toArray rfl rfl 31 _ (heap_alloc_new w5 _) hXX.out.z2 hXX.out.z8 hXX.out.o ?_; refine Hid.out ?_))
  refine Lib.hid ?_
  generalize hww : World.setRow _ _ _ = w6
  obtain ⟨x1, hq⟩ := row_new_set (xs := prdV p Ax cx) hww
  have hE0 := hE0.next hq; have r1 := r1.later hq r1.lt; have q1 := q1.later hq q1.lt; have a1 := a1.later (Nat.le_refl _) hq; have b1 := b1.later (Nat.le_refl _) hq; have ax := ax.later (Nat.le_refl _) hq; have hb0 := hb0.trans (hq.mono hb0.size); clear hq
  clear hww
  generalize w5.heap.size = g9 at *
  obtain ⟨X, hX⟩ : ∃ X, X = prdV p Ax cx := ⟨_, rfl⟩
  rw [← hX] at hXX x1
  have HSX := fun w' (h : PrdAt w' p Ax cx) h2 h3 => HSX.out w' Ax cx h h2 h3
  rw [← hX] at HSX
  have HSX := Lib.hid HSX
  clear hX
  go_wp2_with (first
    | ((with_reducible refine wpList_step fun K hK => ?_); refine step_load_mid (some 38) rfl (by rfl) 31 (.tmp 3) rfl w.heap.size 0 rfl Q _ (row_range r1) Tryz.underlying31 rfl hXQ.out.z ?_; refine hK _ _ ?_; clear hK)
    | (go_at_call 11; have _t := tk2; refine (HC.out _ a1 hE0).mono ?_; rintro e w9 ⟨rfl, hq⟩; have hE0 := hE0.next hq; have r1 := r1.later hq r1.lt; have q1 := q1.later hq q1.lt; have x1 := x1.later hq x1.lt; have a1 := a1.later (Nat.le_refl _) hq; have b1 := b1.later (Nat.le_refl _) hq; have ax := ax.later (Nat.le_refl _) hq; have hb0 := hb0.trans (hq.mono hb0.size); clear hq; clear tk2)
    | ((with_reducible refine wpList_step fun K hK => ?_); refine step_load_mid (some 44) rfl (by rfl) 31 (.tmp 9) rfl g9 0 rfl X _ (row_range x1) Tryz.underlying31 rfl hXX.out.z ?_; refine hK _ _ ?_; clear hK)
    | ((with_reducible refine wpList_step fun K hK => ?_); refine step_load_mid (some 45) rfl (by rfl) 31 (.tmp 3) rfl w.heap.size 0 rfl Q _ (row_range r1) Tryz.underlying31 rfl hXQ.out.z ?_; refine hK _ _ ?_; clear hK)
    | (go_at_call 13; have _t := tk3; refine (HSX.out _ ax a1 hE0).mono ?_; rintro e w9 ⟨rfl, hq⟩; have hE0 := hE0.next hq; have r1 := r1.later hq r1.lt; have q1 := q1.later hq q1.lt; have x1 := x1.later hq x1.lt; have a1 := a1.later (Nat.le_refl _) hq; have b1 := b1.later (Nat.le_refl _) hq; have ax := ax.later (Nat.le_refl _) hq; have hb0 := hb0.trans (hq.mono hb0.size); clear hq; clear tk3)
    | ((with_reducible refine wpList_step fun K hK => ?_); refine step_load_mid (some 53) rfl (by rfl) 31 (.tmp 4) rfl (w.heap.size + 1) 0 rfl P _ (row_range q1) Tryz.underlying31 rfl hXP.out.z ?_; refine hK _ _ ?_; clear hK)
    | (go_at_call 11; have _t := tk4; refine (HCq.out _ b1 hE0).mono ?_; rintro e w9 ⟨rfl, hq⟩; have hE0 := hE0.next hq; have r1 := r1.later hq r1.lt; have q1 := q1.later hq q1.lt; have x1 := x1.later hq x1.lt; have a1 := a1.later (Nat.le_refl _) hq; have b1 := b1.later (Nat.le_refl _) hq; have ax := ax.later (Nat.le_refl _) hq; have hb0 := hb0.trans (hq.mono hb0.size); clear hq; clear tk4)
    | (go_at_call 7; refine (HPS.out _ hE0).mono ?_; intro e w7 hgv; obtain ⟨Ay, cy, rfl, ay, hq⟩ := gave_none hgv; clear hgv; have hXY := Lib.hid (prd23 zeroP ay.ok.net.a Ay cy); have hE0 := hE0.next hq; have r1 := r1.later hq r1.lt; have q1 := q1.later hq q1.lt; have x1 := x1.later hq x1.lt; have a1 := a1.later (Nat.le_refl _) hq; have b1 := b1.later (Nat.le_refl _) hq; have ax := ax.later (Nat.le_refl _) hq; have hb0 := hb0.trans (hq.mono hb0.size); clear hq)
    | (have _t := hXY; refine wpList_store_row rfl 31 (.tmp 11) (.tmp 69) rfl w7.heap.size (prdV zeroP Ay cy).toArray rfl rfl 31 _ (heap_alloc_new w7 _) hXY.out.z2 hXY.out.z8 hXY.out.o ?_; refine Hid.out ?_))
  refine Lib.hid ?_
  generalize hww : World.setRow _ _ _ = w8
  obtain ⟨y1, hq⟩ := row_new_set (xs := prdV zeroP Ay cy) hww
  have hE0 := hE0.next hq; have r1 := r1.later hq r1.lt; have q1 := q1.later hq q1.lt; have x1 := x1.later hq x1.lt; have a1 := a1.later (Nat.le_refl _) hq; have b1 := b1.later (Nat.le_refl _) hq; have ax := ax.later (Nat.le_refl _) hq; have ay := ay.later (Nat.le_refl _) hq; have hb0 := hb0.trans (hq.mono hb0.size); clear hq
  clear hww
  generalize w7.heap.size = g11 at *
  clear ax x1
  obtain ⟨Y, hY⟩ : ∃ Y, Y = prdV zeroP Ay cy := ⟨_, rfl⟩
  rw [← hY] at hXY y1
  have HCY := fun w' (h : PrdAt w' zeroP Ay cy) h3 => HCY.out w' Ay cy h h3
  rw [← hY] at HCY
  have HCY := Lib.hid HCY
  have HSY := fun w' (h : PrdAt w' zeroP Ay cy) h3 => HSY.out w' Ay cy h h3
  rw [← hY] at HSY
  have HSY := Lib.hid HSY
  clear hY
  have tk6 : True := trivial
  go_wp2_with (first
    | ((with_reducible refine wpList_step fun K hK => ?_); refine step_load_mid (some 74) rfl (by rfl) 31 (.tmp 11) rfl g11 0 rfl Y _ (row_range y1) Tryz.underlying31 rfl hXY.out.z ?_; refine hK _ _ ?_; clear hK)
    | (go_at_call 13; refine (HSY.out _ ay hE0).mono ?_; rintro e w9 ⟨rfl, hq⟩; have hE0 := hE0.next hq; have r1 := r1.later hq r1.lt; have q1 := q1.later hq q1.lt; have y1 := y1.later hq y1.lt; have a1 := a1.later (Nat.le_refl _) hq; have b1 := b1.later (Nat.le_refl _) hq; have ay := ay.later (Nat.le_refl _) hq; have hb0 := hb0.trans (hq.mono hb0.size); clear hq)
    | ((with_reducible refine wpList_step fun K hK => ?_); refine step_load_mid (some 79) rfl (by rfl) 31 (.tmp 11) rfl g11 0 rfl Y _ (row_range y1) Tryz.underlying31 rfl hXY.out.z ?_; refine hK _ _ ?_; clear hK)
    | (go_at_call 11; have _t := tk6; refine (HCY.out _ ay hE0).mono ?_; rintro e w9 ⟨rfl, hq⟩; have hE0 := hE0.next hq; have r1 := r1.later hq r1.lt; have q1 := q1.later hq q1.lt; have y1 := y1.later hq y1.lt; have a1 := a1.later (Nat.le_refl _) hq; have b1 := b1.later (Nat.le_refl _) hq; have ay := ay.later (Nat.le_refl _) hq; have hb0 := hb0.trans (hq.mono hb0.size); clear hq; clear tk6))
  go_ret
  exact ⟨rfl, hb0⟩
set_option maxHeartbeats 8000000 in
theorem qb_11 (p q : Prd) (A B : Option Addr) (c d : Nat) (s : List UInt8) (w : World) (hp : PrdArg w p A c) (hq : PrdArg w q B d) (hE0 : EnvQ w) (hlp : p.path.length + sumS p.names ≤ 3000) (hlq : q.path.length + sumS q.names ≤ 3000) (hl : s.length ≤ 2000) (fp : textP p ≠ []) (fq : textP q = []) (y : Prd) (hy : parseP s = some y) :
    Calls Tryz.prog 4 #[.agg (prdV p A c).toArray, .agg (prdV q B d).toArray, .string (bstr s)] w fun e w' => e = .returned (.bool true) ∧ Below w.heap.size w w' := by
  have hal := Lib.hid (fun w' hE => qalive_any w' hE)
  have hzs := size_bstr s
  have hXQ := Lib.hid (prd23 p hp.ok.net.a A c)
  have hXP := Lib.hid (prd23 q hq.ok.net.a B d)
  obtain ⟨Q, hQ⟩ : ∃ Q, Q = prdV p A c := ⟨_, rfl⟩
  obtain ⟨P, hP⟩ : ∃ P, P = prdV q B d := ⟨_, rfl⟩
  obtain ⟨w1, hw1⟩ : ∃ w1, w1 = (w.alloc (.cells Q.toArray 31)).alloc (.cells P.toArray 31) := ⟨_, rfl⟩
  obtain ⟨r1, q1, hb0⟩ := two_prds hw1.symm
  have hE0 := hE0.next hb0
  have a1 := hp.later (Nat.le_refl _) hb0
  have b1 := hq.later (Nat.le_refl _) hb0
  have HLP := fun w' (h : PrdArg w' p A c) => qlong_any p A c w' h
  have HLQ := fun w' (h : PrdArg w' q B d) => qlong_any q B d w' h
  have HW := Lib.hid hw1
  have tokP : True := trivial
  have tokQ : True := trivial
  have hl' : (s.length : Int) ≤ 2000 := by omega
  have HT := Lib.hid (fun w' (h : PrdArg w' p A c) (hE : EnvQ w') => qtext_any p A c w' (h.short hlp) hE)
  have HTq := Lib.hid (fun w' (h : PrdArg w' q B d) (hE : EnvQ w') => qtext_any q B d w' (h.short hlq) hE)
  have HC := fun w' (h : PrdArg w' p A c) (hE : EnvQ w') => qcheck_any p A c w' (h.short hlp) hE
  have HCq := fun w' (h : PrdArg w' q B d) (hE : EnvQ w') => qcheck_any q B d w' (h.short hlq) hE
  have HPA := fun w' (hE : EnvQ w') => qparse_any (textP p) (textP_len17 p) w' hE
  have HPS := fun w' (hE : EnvQ w') => qparse_any s hl w' hE
  have HS := fun w' (h : PrdArg w' p A c) (h2 : PrdArg w' q B d) (hE : EnvQ w') => qsame_any p q A B c d w' (h.short hlp) (h2.short hlq) hE
  rw [longQ_zero p hlp] at HLP
  rw [longQ_zero q hlq] at HLQ
  rw [hy] at HPS
  rw [(parseP_iff _ p).2 ⟨hp.ok, rfl, fp⟩] at HPA
  rw [decide_eq_false fp] at HC
  have HSX := Lib.hid (fun w' Ax cx (h : PrdAt w' p Ax cx) (h2 : PrdArg w' p A c) (hE : EnvQ w') => (sameP_iff p p).2 rfl ▸ qsame_any p p Ax A cx c w' h (h2.short hlp) hE)
  rw [decide_eq_true fq] at HCq
  obtain ⟨y1, y2, y3⟩ := (parseP_iff s y).1 hy
  have HTY := fun w' Ay cy (h : PrdAt w' y Ay cy) (hE : EnvQ w') => qtext_any y Ay cy w' h hE
  have HCY := fun w' Ay cy (h : PrdAt w' y Ay cy) (hE : EnvQ w') => qcheck_any y Ay cy w' h hE
  rw [y2] at HTY HCY
  rw [decide_eq_false y3] at HCY
  have HTY := Lib.hid HTY
  have HCY := Lib.hid HCY
  have hss : ((bstr s).toList == (bstr s).toList) = true := beq_self_eq_true _
  clear y1 y2 y3
  have HC := Lib.hid HC
  have HCq := Lib.hid HCq
  have HPA := Lib.hid HPA
  have HPS := Lib.hid HPS
  have HS := Lib.hid HS
  have HLP := Lib.hid HLP
  have HLQ := Lib.hid HLQ
  rw [← hQ] at hXQ HLP HT HC HS HSX ⊢
  rw [← hP] at hXP HLQ HTq HCq HS ⊢
  clear hw1 hp hq hQ hP hlp hlq hl fp hy fq
  generalize bstr (textP p) = TP at *
  generalize bstr (textP q) = TQ at *
  clear HS
  generalize bstr s = S at *
  have tk1 : True := trivial
  have tk2 : True := trivial
  have tk3 : True := trivial
  have tk4 : True := trivial
  have tk5 : True := trivial
  go_enter Tryz.func4, Tryz.ntmps4
  go_wp2_with (first
    | (go_at_call 5; rw [← HW.out]; refine (hal.out _ hE0).mono ?_; rintro e w9 ⟨rfl, hq⟩; have hE0 := hE0.next hq; have r1 := r1.later hq r1.lt; have q1 := q1.later hq q1.lt; have a1 := a1.later (Nat.le_refl _) hq; have b1 := b1.later (Nat.le_refl _) hq; have hb0 := hb0.trans (hq.mono hb0.size); clear hq)
    | ((with_reducible refine wpList_step fun K hK => ?_); refine step_load_mid (some 15) rfl (by rfl) 31 (.tmp 3) rfl w.heap.size 0 rfl Q _ (row_range r1) Tryz.underlying31 rfl hXQ.out.z ?_; refine hK _ _ ?_; clear hK)
    | (go_at_call 6; have _t := tokP; refine (HLP.out _ a1).mono ?_; rintro e w9 ⟨rfl, hq⟩; have hE0 := hE0.next hq; have r1 := r1.later hq r1.lt; have q1 := q1.later hq q1.lt; have a1 := a1.later (Nat.le_refl _) hq; have b1 := b1.later (Nat.le_refl _) hq; have hb0 := hb0.trans (hq.mono hb0.size); clear hq; clear tokP)
    | ((with_reducible refine wpList_step fun K hK => ?_); refine step_load_mid (some 19) rfl (by rfl) 31 (.tmp 4) rfl (w.heap.size + 1) 0 rfl P _ (row_range q1) Tryz.underlying31 rfl hXP.out.z ?_; refine hK _ _ ?_; clear hK)
    | (go_at_call 6; have _t := tokQ; refine (HLQ.out _ b1).mono ?_; rintro e w4 ⟨rfl, hq⟩; have hE0 := hE0.next hq; have r1 := r1.later hq r1.lt; have q1 := q1.later hq q1.lt; have a1 := a1.later (Nat.le_refl _) hq; have b1 := b1.later (Nat.le_refl _) hq; have hb0 := hb0.trans (hq.mono hb0.size); clear hq; clear tokQ))
  go_wp2
  refine wp_region_noPanic ?_
  refine wp_region_held_drew (S := fun w' => Below w4.heap.size w4 w') (by kernel_rfl) ((Below.refl _ _).drew) (fun hHeld => ?_)
  have hB := hHeld
  refine rtake 0 _ (some 28) _ rfl rfl (by kernel_rfl) (by kernel_rfl) (by kernel_rfl) (fun _ _ _ h => h) (by rfl) hHeld (by intro w hS; exact run_load_op 31 (.tmp 3) rfl _ 0 rfl Q _ (row_range (r1.later hS r1.lt)) Tryz.underlying31 rfl hXQ.out.z) ?_
  try (first | (rw [put_some]; dsimp only [List.set]) | rw [put_none])
  refine rtake 2 _ (some 30) _ rfl rfl (by kernel_rfl) (by kernel_rfl) (by kernel_rfl) (fun _ _ _ h => h) (by rfl) hHeld (by intro w hS; exact run_load_op 31 (.tmp 4) rfl _ 0 rfl P _ (row_range (q1.later hS q1.lt)) Tryz.underlying31 rfl hXP.out.z) ?_
  try (first | (rw [put_some]; dsimp only [List.set]) | rw [put_none])
  refine wpAnyH_ready (rs := [1]) (by kernel_rfl) (by simp) (AllReadyH.cons (o := _) rfl (fun K hK => ?_) AllReadyH.nil)
  go_simp
  refine (HT.out _ (a1.later (Nat.le_refl _) hB) (hE0.next hB)).mono ?_; rintro e ww41 ⟨rfl, hqw41⟩
  try go_wp2_with fail
  refine hK.out _ _ (hHeld.trans (hqw41.mono hHeld.size)) (fun hHeld' => ?_)
  clear hK K
  try (first | (rw [put_some]; dsimp only [List.set]) | rw [put_none])
  have hB := below_step hB hqw41
  have hB1 : Below ww41.heap.size ww41 ww41 := Below.refl _ _
  refine wpAnyH_narrow (S' := fun w' => Below ww41.heap.size ww41 w') (fun _ h => (hHeld.trans (hqw41.mono hHeld.size)).trans (h.mono (hHeld.trans (hqw41.mono hHeld.size)).size)) _ _ _ _ ?_
  clear hHeld
  have hHeld : Below ww41.heap.size ww41 ww41 := Below.refl _ _
  refine wpAnyH_ready (rs := [3]) (by kernel_rfl) (by simp) (AllReadyH.cons (o := _) rfl (fun K hK => ?_) AllReadyH.nil)
  go_simp
  refine (HTq.out _ (b1.later (Nat.le_refl _) hB) (hE0.next hB)).mono ?_; rintro e ww43 ⟨rfl, hqw43⟩
  try go_wp2_with fail
  refine hK.out _ _ (hHeld.trans (hqw43.mono hHeld.size)) (fun hHeld' => ?_)
  clear hK K
  try (first | (rw [put_some]; dsimp only [List.set]) | rw [put_none])
  have hB := below_step hB hqw43
  have hB1 := below_step hB1 hqw43
  have hB3 : Below ww43.heap.size ww43 ww43 := Below.refl _ _
  refine wpAnyH_narrow (S' := fun w' => Below ww43.heap.size ww43 w') (fun _ h => (hHeld.trans (hqw43.mono hHeld.size)).trans (h.mono (hHeld.trans (hqw43.mono hHeld.size)).size)) _ _ _ _ ?_
  clear hHeld
  have hHeld : Below ww43.heap.size ww43 ww43 := Below.refl _ _
  refine rtake 4 _ (some 7) _ rfl rfl (by kernel_rfl) (by kernel_rfl) (by kernel_rfl) (fun _ _ _ h => h) (by rfl) hHeld (by intro w hS; go_simp; try with_reducible rfl) ?_
  try (first | (rw [put_some]; dsimp only [List.set]) | rw [put_none])
  refine rtake 5 _ (some 8) _ rfl rfl (by kernel_rfl) (by kernel_rfl) (by kernel_rfl) (fun _ _ _ h => h) (by rfl) hHeld (by intro w hS; go_simp; try with_reducible rfl) ?_
  try (first | (rw [put_some]; dsimp only [List.set]) | rw [put_none])
  refine wpAnyH_done (by kernel_rfl) ?_ _
  refine NoPanic.normal ?_
  have hq := hB
  clear hHeld
  clear hB
  have hE0 := hE0.next hq
  have r1 := r1.later hq r1.lt
  have q1 := q1.later hq q1.lt
  have a1 := a1.later (Nat.le_refl _) hq
  have b1 := b1.later (Nat.le_refl _) hq
  have hb0 := hb0.trans (hq.mono hb0.size)
  clear hq
  go_wp2_with (first
    | (go_at_call 7; have _t := tk1; refine (HPA.out _ hE0).mono ?_; intro e w5 hgv; obtain ⟨Ax, cx, rfl, ax, hq⟩ := gave_some hgv; clear hgv; have hXX := Lib.hid (prd23 p ax.ok.net.a Ax cx); have hE0 := hE0.next hq; have r1 := r1.later hq r1.lt; have q1 := q1.later hq q1.lt; have a1 := a1.later (Nat.le_refl _) hq; have b1 := b1.later (Nat.le_refl _) hq; have hb0 := hb0.trans (hq.mono hb0.size); clear hq; clear tk1)
    | (have _t := hXX; refine wpList_store_row rfl 31 (.tmp 9) (.tmp 35) rfl w5.heap.size (prdV p Ax cx).toArray rfl rfl 31 _ (heap_alloc_new w5 _) hXX.out.z2 hXX.out.z8 hXX.out.o ?_; refine Hid.out ?_))
  refine Lib.hid ?_
  generalize hww : World.setRow _ _ _ = w6
  obtain ⟨x1, hq⟩ := row_new_set (xs := prdV p Ax cx) hww
  have hE0 := hE0.next hq; have r1 := r1.later hq r1.lt; have q1 := q1.later hq q1.lt; have a1 := a1.later (Nat.le_refl _) hq; have b1 := b1.later (Nat.le_refl _) hq; have ax := ax.later (Nat.le_refl _) hq; have hb0 := hb0.trans (hq.mono hb0.size); clear hq
  clear hww
  generalize w5.heap.size = g9 at *
  obtain ⟨X, hX⟩ : ∃ X, X = prdV p Ax cx := ⟨_, rfl⟩
  rw [← hX] at hXX x1
  have HSX := fun w' (h : PrdAt w' p Ax cx) h2 h3 => HSX.out w' Ax cx h h2 h3
  rw [← hX] at HSX
  have HSX := Lib.hid HSX
  clear hX
  go_wp2_with (first
    | ((with_reducible refine wpList_step fun K hK => ?_); refine step_load_mid (some 38) rfl (by rfl) 31 (.tmp 3) rfl w.heap.size 0 rfl Q _ (row_range r1) Tryz.underlying31 rfl hXQ.out.z ?_; refine hK _ _ ?_; clear hK)
    | (go_at_call 11; have _t := tk2; refine (HC.out _ a1 hE0).mono ?_; rintro e w9 ⟨rfl, hq⟩; have hE0 := hE0.next hq; have r1 := r1.later hq r1.lt; have q1 := q1.later hq q1.lt; have x1 := x1.later hq x1.lt; have a1 := a1.later (Nat.le_refl _) hq; have b1 := b1.later (Nat.le_refl _) hq; have ax := ax.later (Nat.le_refl _) hq; have hb0 := hb0.trans (hq.mono hb0.size); clear hq; clear tk2)
    | ((with_reducible refine wpList_step fun K hK => ?_); refine step_load_mid (some 44) rfl (by rfl) 31 (.tmp 9) rfl g9 0 rfl X _ (row_range x1) Tryz.underlying31 rfl hXX.out.z ?_; refine hK _ _ ?_; clear hK)
    | ((with_reducible refine wpList_step fun K hK => ?_); refine step_load_mid (some 45) rfl (by rfl) 31 (.tmp 3) rfl w.heap.size 0 rfl Q _ (row_range r1) Tryz.underlying31 rfl hXQ.out.z ?_; refine hK _ _ ?_; clear hK)
    | (go_at_call 13; have _t := tk3; refine (HSX.out _ ax a1 hE0).mono ?_; rintro e w9 ⟨rfl, hq⟩; have hE0 := hE0.next hq; have r1 := r1.later hq r1.lt; have q1 := q1.later hq q1.lt; have x1 := x1.later hq x1.lt; have a1 := a1.later (Nat.le_refl _) hq; have b1 := b1.later (Nat.le_refl _) hq; have ax := ax.later (Nat.le_refl _) hq; have hb0 := hb0.trans (hq.mono hb0.size); clear hq; clear tk3)
    | ((with_reducible refine wpList_step fun K hK => ?_); refine step_load_mid (some 53) rfl (by rfl) 31 (.tmp 4) rfl (w.heap.size + 1) 0 rfl P _ (row_range q1) Tryz.underlying31 rfl hXP.out.z ?_; refine hK _ _ ?_; clear hK)
    | (go_at_call 11; have _t := tk4; refine (HCq.out _ b1 hE0).mono ?_; rintro e w9 ⟨rfl, hq⟩; have hE0 := hE0.next hq; have r1 := r1.later hq r1.lt; have q1 := q1.later hq q1.lt; have x1 := x1.later hq x1.lt; have a1 := a1.later (Nat.le_refl _) hq; have b1 := b1.later (Nat.le_refl _) hq; have ax := ax.later (Nat.le_refl _) hq; have hb0 := hb0.trans (hq.mono hb0.size); clear hq; clear tk4)
    | (go_at_call 7; refine (HPS.out _ hE0).mono ?_; intro e w7 hgv; obtain ⟨Ay, cy, rfl, ay, hq⟩ := gave_some hgv; clear hgv; have hXY := Lib.hid (prd23 y ay.ok.net.a Ay cy); have hE0 := hE0.next hq; have r1 := r1.later hq r1.lt; have q1 := q1.later hq q1.lt; have x1 := x1.later hq x1.lt; have a1 := a1.later (Nat.le_refl _) hq; have b1 := b1.later (Nat.le_refl _) hq; have ax := ax.later (Nat.le_refl _) hq; have hb0 := hb0.trans (hq.mono hb0.size); clear hq)
    | (have _t := hXY; refine wpList_store_row rfl 31 (.tmp 11) (.tmp 69) rfl w7.heap.size (prdV y Ay cy).toArray rfl rfl 31 _ (heap_alloc_new w7 _) hXY.out.z2 hXY.out.z8 hXY.out.o ?_; refine Hid.out ?_))
  refine Lib.hid ?_
  generalize hww : World.setRow _ _ _ = w8
  obtain ⟨y1, hq⟩ := row_new_set (xs := prdV y Ay cy) hww
  have hE0 := hE0.next hq; have r1 := r1.later hq r1.lt; have q1 := q1.later hq q1.lt; have x1 := x1.later hq x1.lt; have a1 := a1.later (Nat.le_refl _) hq; have b1 := b1.later (Nat.le_refl _) hq; have ax := ax.later (Nat.le_refl _) hq; have ay := ay.later (Nat.le_refl _) hq; have hb0 := hb0.trans (hq.mono hb0.size); clear hq
  clear hww
  generalize w7.heap.size = g11 at *
  clear ax x1
  obtain ⟨Y, hY⟩ : ∃ Y, Y = prdV y Ay cy := ⟨_, rfl⟩
  rw [← hY] at hXY y1
  have HCY := fun w' (h : PrdAt w' y Ay cy) h3 => HCY.out w' Ay cy h h3
  rw [← hY] at HCY
  have HCY := Lib.hid HCY
  have HTY := fun w' (h : PrdAt w' y Ay cy) h3 => HTY.out w' Ay cy h h3
  rw [← hY] at HTY
  have HTY := Lib.hid HTY
  clear hY
  have tk6 : True := trivial
  go_wp2_with (first
    | ((with_reducible refine wpList_step fun K hK => ?_); refine step_load_mid (some 86) rfl (by rfl) 31 (.tmp 11) rfl g11 0 rfl Y _ (row_range y1) Tryz.underlying31 rfl hXY.out.z ?_; refine hK _ _ ?_; clear hK)
    | (go_at_call 9; refine (HTY.out _ ay hE0).mono ?_; rintro e w9 ⟨rfl, hq⟩; have hE0 := hE0.next hq; have r1 := r1.later hq r1.lt; have q1 := q1.later hq q1.lt; have y1 := y1.later hq y1.lt; have a1 := a1.later (Nat.le_refl _) hq; have b1 := b1.later (Nat.le_refl _) hq; have ay := ay.later (Nat.le_refl _) hq; have hb0 := hb0.trans (hq.mono hb0.size); clear hq)
    | ((with_reducible refine wpList_step fun K hK => ?_); refine step_load_mid (some 92) rfl (by rfl) 31 (.tmp 11) rfl g11 0 rfl Y _ (row_range y1) Tryz.underlying31 rfl hXY.out.z ?_; refine hK _ _ ?_; clear hK)
    | (go_at_call 11; have _t := tk6; refine (HCY.out _ ay hE0).mono ?_; rintro e w9 ⟨rfl, hq⟩; have hE0 := hE0.next hq; have r1 := r1.later hq r1.lt; have q1 := q1.later hq q1.lt; have y1 := y1.later hq y1.lt; have a1 := a1.later (Nat.le_refl _) hq; have b1 := b1.later (Nat.le_refl _) hq; have ay := ay.later (Nat.le_refl _) hq; have hb0 := hb0.trans (hq.mono hb0.size); clear hq; clear tk6))
  go_ret
  exact ⟨rfl, hb0⟩
set_option maxHeartbeats 8000000 in
theorem qb_20 (p q : Prd) (A B : Option Addr) (c d : Nat) (s : List UInt8) (w : World) (hp : PrdArg w p A c) (hq : PrdArg w q B d) (hE0 : EnvQ w) (hlp : p.path.length + sumS p.names ≤ 3000) (hlq : q.path.length + sumS q.names ≤ 3000) (hl : s.length ≤ 2000) (fp : textP p ≠ []) (fq : textP q ≠ []) (hy : parseP s = none) :
    Calls Tryz.prog 4 #[.agg (prdV p A c).toArray, .agg (prdV q B d).toArray, .string (bstr s)] w fun e w' => e = .returned (.bool true) ∧ Below w.heap.size w w' := by
  have hal := Lib.hid (fun w' hE => qalive_any w' hE)
  have hzs := size_bstr s
  have hXQ := Lib.hid (prd23 p hp.ok.net.a A c)
  have hXP := Lib.hid (prd23 q hq.ok.net.a B d)
  obtain ⟨Q, hQ⟩ : ∃ Q, Q = prdV p A c := ⟨_, rfl⟩
  obtain ⟨P, hP⟩ : ∃ P, P = prdV q B d := ⟨_, rfl⟩
  obtain ⟨w1, hw1⟩ : ∃ w1, w1 = (w.alloc (.cells Q.toArray 31)).alloc (.cells P.toArray 31) := ⟨_, rfl⟩
  obtain ⟨r1, q1, hb0⟩ := two_prds hw1.symm
  have hE0 := hE0.next hb0
  have a1 := hp.later (Nat.le_refl _) hb0
  have b1 := hq.later (Nat.le_refl _) hb0
  have HLP := fun w' (h : PrdArg w' p A c) => qlong_any p A c w' h
  have HLQ := fun w' (h : PrdArg w' q B d) => qlong_any q B d w' h
  have HW := Lib.hid hw1
  have tokP : True := trivial
  have tokQ : True := trivial
  have hl' : (s.length : Int) ≤ 2000 := by omega
  have HT := Lib.hid (fun w' (h : PrdArg w' p A c) (hE : EnvQ w') => qtext_any p A c w' (h.short hlp) hE)
  have HTq := Lib.hid (fun w' (h : PrdArg w' q B d) (hE : EnvQ w') => qtext_any q B d w' (h.short hlq) hE)
  have HC := fun w' (h : PrdArg w' p A c) (hE : EnvQ w') => qcheck_any p A c w' (h.short hlp) hE
  have HCq := fun w' (h : PrdArg w' q B d) (hE : EnvQ w') => qcheck_any q B d w' (h.short hlq) hE
  have HPA := fun w' (hE : EnvQ w') => qparse_any (textP p) (textP_len17 p) w' hE
  have HPS := fun w' (hE : EnvQ w') => qparse_any s hl w' hE
  have HS := fun w' (h : PrdArg w' p A c) (h2 : PrdArg w' q B d) (hE : EnvQ w') => qsame_any p q A B c d w' (h.short hlp) (h2.short hlq) hE
  rw [longQ_zero p hlp] at HLP
  rw [longQ_zero q hlq] at HLQ
  rw [hy] at HPS
  rw [(parseP_iff _ p).2 ⟨hp.ok, rfl, fp⟩] at HPA
  rw [decide_eq_false fp] at HC
  have HSX := Lib.hid (fun w' Ax cx (h : PrdAt w' p Ax cx) (h2 : PrdArg w' p A c) (hE : EnvQ w') => (sameP_iff p p).2 rfl ▸ qsame_any p p Ax A cx c w' h (h2.short hlp) hE)
  rw [decide_eq_false fq] at HCq
  have heq : ((bstr (textP p)).toList == (bstr (textP q)).toList) = sameP p q := by
    rw [bstr_beq, Bool.eq_iff_iff, decide_eq_true_iff, sameP_iff]
    exact ⟨fun h => textP_inj p q hp.ok hq.ok h fp, fun h => by rw [h]⟩
  have HCY := fun w' Ay cy (h : PrdAt w' zeroP Ay cy) (hE : EnvQ w') => qcheck_any zeroP Ay cy w' h hE
  rw [show textP zeroP = [] by decide] at HCY
  have HCY := Lib.hid HCY
  have HSY := Lib.hid (fun w' Ay cy (h : PrdAt w' zeroP Ay cy) (hE : EnvQ w') => show Calls Tryz.prog 13 #[.agg (prdV zeroP Ay cy).toArray, .agg #[Value.int .i64 0, .int .u64 0, .slice none 0 0, .string { data := #[] }, .bool false, .int .u8 0, .int .u8 0, .int .u8 0, .int .u8 0, .int .u8 0, .int .u8 0, .int .u8 0, .int .u8 0, .int .u8 0, .int .u8 0, .int .u8 0, .int .u8 0, .int .u8 0, .int .u8 0, .int .u8 0, .int .u8 0, .int .i64 0, .float .f64 0]] w' fun e w'' => e = .returned (.bool true) ∧ Below w'.heap.size w' w'' from (sameP_iff zeroP zeroP).2 rfl ▸ qsame_any zeroP zeroP Ay none cy 0 w' h (zero_at w') hE)
  have HC := Lib.hid HC
  have HCq := Lib.hid HCq
  have HPA := Lib.hid HPA
  have HPS := Lib.hid HPS
  have HS := Lib.hid HS
  have HLP := Lib.hid HLP
  have HLQ := Lib.hid HLQ
  rw [← hQ] at hXQ HLP HT HC HS HSX ⊢
  rw [← hP] at hXP HLQ HTq HCq HS ⊢
  clear hw1 hp hq hQ hP hlp hlq hl fp hy fq
  generalize sameP p q = sq at *
  generalize bstr (textP p) = TP at *
  generalize bstr (textP q) = TQ at *
  generalize bstr s = S at *
  have tk1 : True := trivial
  have tk2 : True := trivial
  have tk3 : True := trivial
  have tk4 : True := trivial
  have tk5 : True := trivial
  go_enter Tryz.func4, Tryz.ntmps4
  go_wp2_with (first
    | (go_at_call 5; rw [← HW.out]; refine (hal.out _ hE0).mono ?_; rintro e w9 ⟨rfl, hq⟩; have hE0 := hE0.next hq; have r1 := r1.later hq r1.lt; have q1 := q1.later hq q1.lt; have a1 := a1.later (Nat.le_refl _) hq; have b1 := b1.later (Nat.le_refl _) hq; have hb0 := hb0.trans (hq.mono hb0.size); clear hq)
    | ((with_reducible refine wpList_step fun K hK => ?_); refine step_load_mid (some 15) rfl (by rfl) 31 (.tmp 3) rfl w.heap.size 0 rfl Q _ (row_range r1) Tryz.underlying31 rfl hXQ.out.z ?_; refine hK _ _ ?_; clear hK)
    | (go_at_call 6; have _t := tokP; refine (HLP.out _ a1).mono ?_; rintro e w9 ⟨rfl, hq⟩; have hE0 := hE0.next hq; have r1 := r1.later hq r1.lt; have q1 := q1.later hq q1.lt; have a1 := a1.later (Nat.le_refl _) hq; have b1 := b1.later (Nat.le_refl _) hq; have hb0 := hb0.trans (hq.mono hb0.size); clear hq; clear tokP)
    | ((with_reducible refine wpList_step fun K hK => ?_); refine step_load_mid (some 19) rfl (by rfl) 31 (.tmp 4) rfl (w.heap.size + 1) 0 rfl P _ (row_range q1) Tryz.underlying31 rfl hXP.out.z ?_; refine hK _ _ ?_; clear hK)
    | (go_at_call 6; have _t := tokQ; refine (HLQ.out _ b1).mono ?_; rintro e w4 ⟨rfl, hq⟩; have hE0 := hE0.next hq; have r1 := r1.later hq r1.lt; have q1 := q1.later hq q1.lt; have a1 := a1.later (Nat.le_refl _) hq; have b1 := b1.later (Nat.le_refl _) hq; have hb0 := hb0.trans (hq.mono hb0.size); clear hq; clear tokQ))
  go_wp2
  refine wp_region_noPanic ?_
  refine wp_region_held_drew (S := fun w' => Below w4.heap.size w4 w') (by kernel_rfl) ((Below.refl _ _).drew) (fun hHeld => ?_)
  have hB := hHeld
  refine rtake 0 _ (some 28) _ rfl rfl (by kernel_rfl) (by kernel_rfl) (by kernel_rfl) (fun _ _ _ h => h) (by rfl) hHeld (by intro w hS; exact run_load_op 31 (.tmp 3) rfl _ 0 rfl Q _ (row_range (r1.later hS r1.lt)) Tryz.underlying31 rfl hXQ.out.z) ?_
  try (first | (rw [put_some]; dsimp only [List.set]) | rw [put_none])
  refine rtake 2 _ (some 30) _ rfl rfl (by kernel_rfl) (by kernel_rfl) (by kernel_rfl) (fun _ _ _ h => h) (by rfl) hHeld (by intro w hS; exact run_load_op 31 (.tmp 4) rfl _ 0 rfl P _ (row_range (q1.later hS q1.lt)) Tryz.underlying31 rfl hXP.out.z) ?_
  try (first | (rw [put_some]; dsimp only [List.set]) | rw [put_none])
  refine wpAnyH_ready (rs := [1]) (by kernel_rfl) (by simp) (AllReadyH.cons (o := _) rfl (fun K hK => ?_) AllReadyH.nil)
  go_simp
  refine (HT.out _ (a1.later (Nat.le_refl _) hB) (hE0.next hB)).mono ?_; rintro e ww41 ⟨rfl, hqw41⟩
  try go_wp2_with fail
  refine hK.out _ _ (hHeld.trans (hqw41.mono hHeld.size)) (fun hHeld' => ?_)
  clear hK K
  try (first | (rw [put_some]; dsimp only [List.set]) | rw [put_none])
  have hB := below_step hB hqw41
  have hB1 : Below ww41.heap.size ww41 ww41 := Below.refl _ _
  refine wpAnyH_narrow (S' := fun w' => Below ww41.heap.size ww41 w') (fun _ h => (hHeld.trans (hqw41.mono hHeld.size)).trans (h.mono (hHeld.trans (hqw41.mono hHeld.size)).size)) _ _ _ _ ?_
  clear hHeld
  have hHeld : Below ww41.heap.size ww41 ww41 := Below.refl _ _
  refine wpAnyH_ready (rs := [3]) (by kernel_rfl) (by simp) (AllReadyH.cons (o := _) rfl (fun K hK => ?_) AllReadyH.nil)
  go_simp
  refine (HTq.out _ (b1.later (Nat.le_refl _) hB) (hE0.next hB)).mono ?_; rintro e ww43 ⟨rfl, hqw43⟩
  try go_wp2_with fail
  refine hK.out _ _ (hHeld.trans (hqw43.mono hHeld.size)) (fun hHeld' => ?_)
  clear hK K
  try (first | (rw [put_some]; dsimp only [List.set]) | rw [put_none])
  have hB := below_step hB hqw43
  have hB1 := below_step hB1 hqw43
  have hB3 : Below ww43.heap.size ww43 ww43 := Below.refl _ _
  refine wpAnyH_narrow (S' := fun w' => Below ww43.heap.size ww43 w') (fun _ h => (hHeld.trans (hqw43.mono hHeld.size)).trans (h.mono (hHeld.trans (hqw43.mono hHeld.size)).size)) _ _ _ _ ?_
  clear hHeld
  have hHeld : Below ww43.heap.size ww43 ww43 := Below.refl _ _
  refine rtake 4 _ (some 7) _ rfl rfl (by kernel_rfl) (by kernel_rfl) (by kernel_rfl) (fun _ _ _ h => h) (by rfl) hHeld (by intro w hS; go_simp; try with_reducible rfl) ?_
  try (first | (rw [put_some]; dsimp only [List.set]) | rw [put_none])
  refine rtake 5 _ (some 8) _ rfl rfl (by kernel_rfl) (by kernel_rfl) (by kernel_rfl) (fun _ _ _ h => h) (by rfl) hHeld (by intro w hS; go_simp; try with_reducible rfl) ?_
  try (first | (rw [put_some]; dsimp only [List.set]) | rw [put_none])
  refine wpAnyH_done (by kernel_rfl) ?_ _
  refine NoPanic.normal ?_
  have hq := hB
  clear hHeld
  clear hB
  have hE0 := hE0.next hq
  have r1 := r1.later hq r1.lt
  have q1 := q1.later hq q1.lt
  have a1 := a1.later (Nat.le_refl _) hq
  have b1 := b1.later (Nat.le_refl _) hq
  have hb0 := hb0.trans (hq.mono hb0.size)
  clear hq
  go_wp2_with (first
    | (go_at_call 7; have _t := tk1; refine (HPA.out _ hE0).mono ?_; intro e w5 hgv; obtain ⟨Ax, cx, rfl, ax, hq⟩ := gave_some hgv; clear hgv; have hXX := Lib.hid (prd23 p ax.ok.net.a Ax cx); have hE0 := hE0.next hq; have r1 := r1.later hq r1.lt; have q1 := q1.later hq q1.lt; have a1 := a1.later (Nat.le_refl _) hq; have b1 := b1.later (Nat.le_refl _) hq; have hb0 := hb0.trans (hq.mono hb0.size); clear hq; clear tk1)
    | (have _t := hXX; refine wpList_store_row rfl 31 (.tmp 9) (.tmp 35) rfl w5.heap.size (prdV p Ax cx).toArray rfl rfl 31 _ (heap_alloc_new w5 _) hXX.out.z2 hXX.out.z8 hXX.out.o ?_; refine Hid.out ?_))
  refine Lib.hid ?_
  generalize hww : World.setRow _ _ _ = w6
  obtain ⟨x1, hq⟩ := row_new_set (xs := prdV p Ax cx) hww
  have hE0 := hE0.next hq; have r1 := r1.later hq r1.lt; have q1 := q1.later hq q1.lt; have a1 := a1.later (Nat.le_refl _) hq; have b1 := b1.later (Nat.le_refl _) hq; have ax := ax.later (Nat.le_refl _) hq; have hb0 := hb0.trans (hq.mono hb0.size); clear hq
  clear hww
  generalize w5.heap.size = g9 at *
  obtain ⟨X, hX⟩ : ∃ X, X = prdV p Ax cx := ⟨_, rfl⟩
  rw [← hX] at hXX x1
  have HSX := fun w' (h : PrdAt w' p Ax cx) h2 h3 => HSX.out w' Ax cx h h2 h3
  rw [← hX] at HSX
  have HSX := Lib.hid HSX
  clear hX
  go_wp2_with (first
    | ((with_reducible refine wpList_step fun K hK => ?_); refine step_load_mid (some 38) rfl (by rfl) 31 (.tmp 3) rfl w.heap.size 0 rfl Q _ (row_range r1) Tryz.underlying31 rfl hXQ.out.z ?_; refine hK _ _ ?_; clear hK)
    | (go_at_call 11; have _t := tk2; refine (HC.out _ a1 hE0).mono ?_; rintro e w9 ⟨rfl, hq⟩; have hE0 := hE0.next hq; have r1 := r1.later hq r1.lt; have q1 := q1.later hq q1.lt; have x1 := x1.later hq x1.lt; have a1 := a1.later (Nat.le_refl _) hq; have b1 := b1.later (Nat.le_refl _) hq; have ax := ax.later (Nat.le_refl _) hq; have hb0 := hb0.trans (hq.mono hb0.size); clear hq; clear tk2)
    | ((with_reducible refine wpList_step fun K hK => ?_); refine step_load_mid (some 44) rfl (by rfl) 31 (.tmp 9) rfl g9 0 rfl X _ (row_range x1) Tryz.underlying31 rfl hXX.out.z ?_; refine hK _ _ ?_; clear hK)
    | ((with_reducible refine wpList_step fun K hK => ?_); refine step_load_mid (some 45) rfl (by rfl) 31 (.tmp 3) rfl w.heap.size 0 rfl Q _ (row_range r1) Tryz.underlying31 rfl hXQ.out.z ?_; refine hK _ _ ?_; clear hK)
    | (go_at_call 13; have _t := tk3; refine (HSX.out _ ax a1 hE0).mono ?_; rintro e w9 ⟨rfl, hq⟩; have hE0 := hE0.next hq; have r1 := r1.later hq r1.lt; have q1 := q1.later hq q1.lt; have x1 := x1.later hq x1.lt; have a1 := a1.later (Nat.le_refl _) hq; have b1 := b1.later (Nat.le_refl _) hq; have ax := ax.later (Nat.le_refl _) hq; have hb0 := hb0.trans (hq.mono hb0.size); clear hq; clear tk3)
    | ((with_reducible refine wpList_step fun K hK => ?_); refine step_load_mid (some 53) rfl (by rfl) 31 (.tmp 4) rfl (w.heap.size + 1) 0 rfl P _ (row_range q1) Tryz.underlying31 rfl hXP.out.z ?_; refine hK _ _ ?_; clear hK)
    | (go_at_call 11; have _t := tk4; refine (HCq.out _ b1 hE0).mono ?_; rintro e w9 ⟨rfl, hq⟩; have hE0 := hE0.next hq; have r1 := r1.later hq r1.lt; have q1 := q1.later hq q1.lt; have x1 := x1.later hq x1.lt; have a1 := a1.later (Nat.le_refl _) hq; have b1 := b1.later (Nat.le_refl _) hq; have ax := ax.later (Nat.le_refl _) hq; have hb0 := hb0.trans (hq.mono hb0.size); clear hq; clear tk4)
    | ((with_reducible refine wpList_step fun K hK => ?_); refine step_load_mid (some 60) rfl (by rfl) 31 (.tmp 3) rfl w.heap.size 0 rfl Q _ (row_range r1) Tryz.underlying31 rfl hXQ.out.z ?_; refine hK _ _ ?_; clear hK)
    | ((with_reducible refine wpList_step fun K hK => ?_); refine step_load_mid (some 61) rfl (by rfl) 31 (.tmp 4) rfl (w.heap.size + 1) 0 rfl P _ (row_range q1) Tryz.underlying31 rfl hXP.out.z ?_; refine hK _ _ ?_; clear hK)
    | (go_at_call 13; have _t := tk5; refine (HS.out _ a1 b1 hE0).mono ?_; rintro e w9 ⟨rfl, hq⟩; have hE0 := hE0.next hq; have r1 := r1.later hq r1.lt; have q1 := q1.later hq q1.lt; have x1 := x1.later hq x1.lt; have a1 := a1.later (Nat.le_refl _) hq; have b1 := b1.later (Nat.le_refl _) hq; have ax := ax.later (Nat.le_refl _) hq; have hb0 := hb0.trans (hq.mono hb0.size); clear hq; clear tk5)
    | (go_at_call 7; refine (HPS.out _ hE0).mono ?_; intro e w7 hgv; obtain ⟨Ay, cy, rfl, ay, hq⟩ := gave_none hgv; clear hgv; have hXY := Lib.hid (prd23 zeroP ay.ok.net.a Ay cy); have hE0 := hE0.next hq; have r1 := r1.later hq r1.lt; have q1 := q1.later hq q1.lt; have x1 := x1.later hq x1.lt; have a1 := a1.later (Nat.le_refl _) hq; have b1 := b1.later (Nat.le_refl _) hq; have ax := ax.later (Nat.le_refl _) hq; have hb0 := hb0.trans (hq.mono hb0.size); clear hq)
    | (have _t := hXY; refine wpList_store_row rfl 31 (.tmp 11) (.tmp 69) rfl w7.heap.size (prdV zeroP Ay cy).toArray rfl rfl 31 _ (heap_alloc_new w7 _) hXY.out.z2 hXY.out.z8 hXY.out.o ?_; refine Hid.out ?_))
  refine Lib.hid ?_
  generalize hww : World.setRow _ _ _ = w8
  obtain ⟨y1, hq⟩ := row_new_set (xs := prdV zeroP Ay cy) hww
  have hE0 := hE0.next hq; have r1 := r1.later hq r1.lt; have q1 := q1.later hq q1.lt; have x1 := x1.later hq x1.lt; have a1 := a1.later (Nat.le_refl _) hq; have b1 := b1.later (Nat.le_refl _) hq; have ax := ax.later (Nat.le_refl _) hq; have ay := ay.later (Nat.le_refl _) hq; have hb0 := hb0.trans (hq.mono hb0.size); clear hq
  clear hww
  generalize w7.heap.size = g11 at *
  clear ax x1
  obtain ⟨Y, hY⟩ : ∃ Y, Y = prdV zeroP Ay cy := ⟨_, rfl⟩
  rw [← hY] at hXY y1
  have HCY := fun w' (h : PrdAt w' zeroP Ay cy) h3 => HCY.out w' Ay cy h h3
  rw [← hY] at HCY
  have HCY := Lib.hid HCY
  have HSY := fun w' (h : PrdAt w' zeroP Ay cy) h3 => HSY.out w' Ay cy h h3
  rw [← hY] at HSY
  have HSY := Lib.hid HSY
  clear hY
  have tk6 : True := trivial
  go_wp2_with (first
    | ((with_reducible refine wpList_step fun K hK => ?_); refine step_load_mid (some 74) rfl (by rfl) 31 (.tmp 11) rfl g11 0 rfl Y _ (row_range y1) Tryz.underlying31 rfl hXY.out.z ?_; refine hK _ _ ?_; clear hK)
    | (go_at_call 13; refine (HSY.out _ ay hE0).mono ?_; rintro e w9 ⟨rfl, hq⟩; have hE0 := hE0.next hq; have r1 := r1.later hq r1.lt; have q1 := q1.later hq q1.lt; have y1 := y1.later hq y1.lt; have a1 := a1.later (Nat.le_refl _) hq; have b1 := b1.later (Nat.le_refl _) hq; have ay := ay.later (Nat.le_refl _) hq; have hb0 := hb0.trans (hq.mono hb0.size); clear hq)
    | ((with_reducible refine wpList_step fun K hK => ?_); refine step_load_mid (some 79) rfl (by rfl) 31 (.tmp 11) rfl g11 0 rfl Y _ (row_range y1) Tryz.underlying31 rfl hXY.out.z ?_; refine hK _ _ ?_; clear hK)
    | (go_at_call 11; have _t := tk6; refine (HCY.out _ ay hE0).mono ?_; rintro e w9 ⟨rfl, hq⟩; have hE0 := hE0.next hq; have r1 := r1.later hq r1.lt; have q1 := q1.later hq q1.lt; have y1 := y1.later hq y1.lt; have a1 := a1.later (Nat.le_refl _) hq; have b1 := b1.later (Nat.le_refl _) hq; have ay := ay.later (Nat.le_refl _) hq; have hb0 := hb0.trans (hq.mono hb0.size); clear hq; clear tk6))
  go_ret
  exact ⟨rfl, hb0⟩
set_option maxHeartbeats 8000000 in
theorem qb_21 (p q : Prd) (A B : Option Addr) (c d : Nat) (s : List UInt8) (w : World) (hp : PrdArg w p A c) (hq : PrdArg w q B d) (hE0 : EnvQ w) (hlp : p.path.length + sumS p.names ≤ 3000) (hlq : q.path.length + sumS q.names ≤ 3000) (hl : s.length ≤ 2000) (fp : textP p ≠ []) (fq : textP q ≠ []) (y : Prd) (hy : parseP s = some y) :
    Calls Tryz.prog 4 #[.agg (prdV p A c).toArray, .agg (prdV q B d).toArray, .string (bstr s)] w fun e w' => e = .returned (.bool true) ∧ Below w.heap.size w w' := by
  have hal := Lib.hid (fun w' hE => qalive_any w' hE)
  have hzs := size_bstr s
  have hXQ := Lib.hid (prd23 p hp.ok.net.a A c)
  have hXP := Lib.hid (prd23 q hq.ok.net.a B d)
  obtain ⟨Q, hQ⟩ : ∃ Q, Q = prdV p A c := ⟨_, rfl⟩
  obtain ⟨P, hP⟩ : ∃ P, P = prdV q B d := ⟨_, rfl⟩
  obtain ⟨w1, hw1⟩ : ∃ w1, w1 = (w.alloc (.cells Q.toArray 31)).alloc (.cells P.toArray 31) := ⟨_, rfl⟩
  obtain ⟨r1, q1, hb0⟩ := two_prds hw1.symm
  have hE0 := hE0.next hb0
  have a1 := hp.later (Nat.le_refl _) hb0
  have b1 := hq.later (Nat.le_refl _) hb0
  have HLP := fun w' (h : PrdArg w' p A c) => qlong_any p A c w' h
  have HLQ := fun w' (h : PrdArg w' q B d) => qlong_any q B d w' h
  have HW := Lib.hid hw1
  have tokP : True := trivial
  have tokQ : True := trivial
  have hl' : (s.length : Int) ≤ 2000 := by omega
  have HT := Lib.hid (fun w' (h : PrdArg w' p A c) (hE : EnvQ w') => qtext_any p A c w' (h.short hlp) hE)
  have HTq := Lib.hid (fun w' (h : PrdArg w' q B d) (hE : EnvQ w') => qtext_any q B d w' (h.short hlq) hE)
  have HC := fun w' (h : PrdArg w' p A c) (hE : EnvQ w') => qcheck_any p A c w' (h.short hlp) hE
  have HCq := fun w' (h : PrdArg w' q B d) (hE : EnvQ w') => qcheck_any q B d w' (h.short hlq) hE
  have HPA := fun w' (hE : EnvQ w') => qparse_any (textP p) (textP_len17 p) w' hE
  have HPS := fun w' (hE : EnvQ w') => qparse_any s hl w' hE
  have HS := fun w' (h : PrdArg w' p A c) (h2 : PrdArg w' q B d) (hE : EnvQ w') => qsame_any p q A B c d w' (h.short hlp) (h2.short hlq) hE
  rw [longQ_zero p hlp] at HLP
  rw [longQ_zero q hlq] at HLQ
  rw [hy] at HPS
  rw [(parseP_iff _ p).2 ⟨hp.ok, rfl, fp⟩] at HPA
  rw [decide_eq_false fp] at HC
  have HSX := Lib.hid (fun w' Ax cx (h : PrdAt w' p Ax cx) (h2 : PrdArg w' p A c) (hE : EnvQ w') => (sameP_iff p p).2 rfl ▸ qsame_any p p Ax A cx c w' h (h2.short hlp) hE)
  rw [decide_eq_false fq] at HCq
  have heq : ((bstr (textP p)).toList == (bstr (textP q)).toList) = sameP p q := by
    rw [bstr_beq, Bool.eq_iff_iff, decide_eq_true_iff, sameP_iff]
    exact ⟨fun h => textP_inj p q hp.ok hq.ok h fp, fun h => by rw [h]⟩
  obtain ⟨y1, y2, y3⟩ := (parseP_iff s y).1 hy
  have HTY := fun w' Ay cy (h : PrdAt w' y Ay cy) (hE : EnvQ w') => qtext_any y Ay cy w' h hE
  have HCY := fun w' Ay cy (h : PrdAt w' y Ay cy) (hE : EnvQ w') => qcheck_any y Ay cy w' h hE
  rw [y2] at HTY HCY
  rw [decide_eq_false y3] at HCY
  have HTY := Lib.hid HTY
  have HCY := Lib.hid HCY
  have hss : ((bstr s).toList == (bstr s).toList) = true := beq_self_eq_true _
  clear y1 y2 y3
  have HC := Lib.hid HC
  have HCq := Lib.hid HCq
  have HPA := Lib.hid HPA
  have HPS := Lib.hid HPS
  have HS := Lib.hid HS
  have HLP := Lib.hid HLP
  have HLQ := Lib.hid HLQ
  rw [← hQ] at hXQ HLP HT HC HS HSX ⊢
  rw [← hP] at hXP HLQ HTq HCq HS ⊢
  clear hw1 hp hq hQ hP hlp hlq hl fp hy fq
  generalize sameP p q = sq at *
  generalize bstr (textP p) = TP at *
  generalize bstr (textP q) = TQ at *
  generalize bstr s = S at *
  have tk1 : True := trivial
  have tk2 : True := trivial
  have tk3 : True := trivial
  have tk4 : True := trivial
  have tk5 : True := trivial
  go_enter Tryz.func4, Tryz.ntmps4
  go_wp2_with (first
    | (go_at_call 5; rw [← HW.out]; refine (hal.out _ hE0).mono ?_; rintro e w9 ⟨rfl, hq⟩; have hE0 := hE0.next hq; have r1 := r1.later hq r1.lt; have q1 := q1.later hq q1.lt; have a1 := a1.later (Nat.le_refl _) hq; have b1 := b1.later (Nat.le_refl _) hq; have hb0 := hb0.trans (hq.mono hb0.size); clear hq)
    | ((with_reducible refine wpList_step fun K hK => ?_); refine step_load_mid (some 15) rfl (by rfl) 31 (.tmp 3) rfl w.heap.size 0 rfl Q _ (row_range r1) Tryz.underlying31 rfl hXQ.out.z ?_; refine hK _ _ ?_; clear hK)
    | (go_at_call 6; have _t := tokP; refine (HLP.out _ a1).mono ?_; rintro e w9 ⟨rfl, hq⟩; have hE0 := hE0.next hq; have r1 := r1.later hq r1.lt; have q1 := q1.later hq q1.lt; have a1 := a1.later (Nat.le_refl _) hq; have b1 := b1.later (Nat.le_refl _) hq; have hb0 := hb0.trans (hq.mono hb0.size); clear hq; clear tokP)
    | ((with_reducible refine wpList_step fun K hK => ?_); refine step_load_mid (some 19) rfl (by rfl) 31 (.tmp 4) rfl (w.heap.size + 1) 0 rfl P _ (row_range q1) Tryz.underlying31 rfl hXP.out.z ?_; refine hK _ _ ?_; clear hK)
    | (go_at_call 6; have _t := tokQ; refine (HLQ.out _ b1).mono ?_; rintro e w4 ⟨rfl, hq⟩; have hE0 := hE0.next hq; have r1 := r1.later hq r1.lt; have q1 := q1.later hq q1.lt; have a1 := a1.later (Nat.le_refl _) hq; have b1 := b1.later (Nat.le_refl _) hq; have hb0 := hb0.trans (hq.mono hb0.size); clear hq; clear tokQ))
  go_wp2
  refine wp_region_noPanic ?_
  refine wp_region_held_drew (S := fun w' => Below w4.heap.size w4 w') (by kernel_rfl) ((Below.refl _ _).drew) (fun hHeld => ?_)
  have hB := hHeld
  refine rtake 0 _ (some 28) _ rfl rfl (by kernel_rfl) (by kernel_rfl) (by kernel_rfl) (fun _ _ _ h => h) (by rfl) hHeld (by intro w hS; exact run_load_op 31 (.tmp 3) rfl _ 0 rfl Q _ (row_range (r1.later hS r1.lt)) Tryz.underlying31 rfl hXQ.out.z) ?_
  try (first | (rw [put_some]; dsimp only [List.set]) | rw [put_none])
  refine rtake 2 _ (some 30) _ rfl rfl (by kernel_rfl) (by kernel_rfl) (by kernel_rfl) (fun _ _ _ h => h) (by rfl) hHeld (by intro w hS; exact run_load_op 31 (.tmp 4) rfl _ 0 rfl P _ (row_range (q1.later hS q1.lt)) Tryz.underlying31 rfl hXP.out.z) ?_
  try (first | (rw [put_some]; dsimp only [List.set]) | rw [put_none])
  refine wpAnyH_ready (rs := [1]) (by kernel_rfl) (by simp) (AllReadyH.cons (o := _) rfl (fun K hK => ?_) AllReadyH.nil)
  go_simp
  refine (HT.out _ (a1.later (Nat.le_refl _) hB) (hE0.next hB)).mono ?_; rintro e ww41 ⟨rfl, hqw41⟩
  try go_wp2_with fail
  refine hK.out _ _ (hHeld.trans (hqw41.mono hHeld.size)) (fun hHeld' => ?_)
  clear hK K
  try (first | (rw [put_some]; dsimp only [List.set]) | rw [put_none])
  have hB := below_step hB hqw41
  have hB1 : Below ww41.heap.size ww41 ww41 := Below.refl _ _
  refine wpAnyH_narrow (S' := fun w' => Below ww41.heap.size ww41 w') (fun _ h => (hHeld.trans (hqw41.mono hHeld.size)).trans (h.mono (hHeld.trans (hqw41.mono hHeld.size)).size)) _ _ _ _ ?_
  clear hHeld
  have hHeld : Below ww41.heap.size ww41 ww41 := Below.refl _ _
  refine wpAnyH_ready (rs := [3]) (by kernel_rfl) (by simp) (AllReadyH.cons (o := _) rfl (fun K hK => ?_) AllReadyH.nil)
  go_simp
  refine (HTq.out _ (b1.later (Nat.le_refl _) hB) (hE0.next hB)).mono ?_; rintro e ww43 ⟨rfl, hqw43⟩
  try go_wp2_with fail
  refine hK.out _ _ (hHeld.trans (hqw43.mono hHeld.size)) (fun hHeld' => ?_)
  clear hK K
  try (first | (rw [put_some]; dsimp only [List.set]) | rw [put_none])
  have hB := below_step hB hqw43
  have hB1 := below_step hB1 hqw43
  have hB3 : Below ww43.heap.size ww43 ww43 := Below.refl _ _
  refine wpAnyH_narrow (S' := fun w' => Below ww43.heap.size ww43 w') (fun _ h => (hHeld.trans (hqw43.mono hHeld.size)).trans (h.mono (hHeld.trans (hqw43.mono hHeld.size)).size)) _ _ _ _ ?_
  clear hHeld
  have hHeld : Below ww43.heap.size ww43 ww43 := Below.refl _ _
  refine rtake 4 _ (some 7) _ rfl rfl (by kernel_rfl) (by kernel_rfl) (by kernel_rfl) (fun _ _ _ h => h) (by rfl) hHeld (by intro w hS; go_simp; try with_reducible rfl) ?_
  try (first | (rw [put_some]; dsimp only [List.set]) | rw [put_none])
  refine rtake 5 _ (some 8) _ rfl rfl (by kernel_rfl) (by kernel_rfl) (by kernel_rfl) (fun _ _ _ h => h) (by rfl) hHeld (by intro w hS; go_simp; try with_reducible rfl) ?_
  try (first | (rw [put_some]; dsimp only [List.set]) | rw [put_none])
  refine wpAnyH_done (by kernel_rfl) ?_ _
  refine NoPanic.normal ?_
  have hq := hB
  clear hHeld
  clear hB
  have hE0 := hE0.next hq
  have r1 := r1.later hq r1.lt
  have q1 := q1.later hq q1.lt
  have a1 := a1.later (Nat.le_refl _) hq
  have b1 := b1.later (Nat.le_refl _) hq
  have hb0 := hb0.trans (hq.mono hb0.size)
  clear hq
  go_wp2_with (first
    | (go_at_call 7; have _t := tk1; refine (HPA.out _ hE0).mono ?_; intro e w5 hgv; obtain ⟨Ax, cx, rfl, ax, hq⟩ := gave_some hgv; clear hgv; have hXX := Lib.hid (prd23 p ax.ok.net.a Ax cx); have hE0 := hE0.next hq; have r1 := r1.later hq r1.lt; have q1 := q1.later hq q1.lt; have a1 := a1.later (Nat.le_refl _) hq; have b1 := b1.later (Nat.le_refl _) hq; have hb0 := hb0.trans (hq.mono hb0.size); clear hq; clear tk1)
    | (have _t := hXX; refine wpList_store_row rfl 31 (.tmp 9) (.tmp 35) rfl w5.heap.size (prdV p Ax cx).toArray rfl rfl 31 _ (heap_alloc_new w5 _) hXX.out.z2 hXX.out.z8 hXX.out.o ?_; refine Hid.out ?_))
  refine Lib.hid ?_
  generalize hww : World.setRow _ _ _ = w6
  obtain ⟨x1, hq⟩ := row_new_set (xs := prdV p Ax cx) hww
  have hE0 := hE0.next hq; have r1 := r1.later hq r1.lt; have q1 := q1.later hq q1.lt; have a1 := a1.later (Nat.le_refl _) hq; have b1 := b1.later (Nat.le_refl _) hq; have ax := ax.later (Nat.le_refl _) hq; have hb0 := hb0.trans (hq.mono hb0.size); clear hq
  clear hww
  generalize w5.heap.size = g9 at *
  obtain ⟨X, hX⟩ : ∃ X, X = prdV p Ax cx := ⟨_, rfl⟩
  rw [← hX] at hXX x1
  have HSX := fun w' (h : PrdAt w' p Ax cx) h2 h3 => HSX.out w' Ax cx h h2 h3
  rw [← hX] at HSX
  have HSX := Lib.hid HSX
  clear hX
  go_wp2_with (first
    | ((with_reducible refine wpList_step fun K hK => ?_); refine step_load_mid (some 38) rfl (by rfl) 31 (.tmp 3) rfl w.heap.size 0 rfl Q _ (row_range r1) Tryz.underlying31 rfl hXQ.out.z ?_; refine hK _ _ ?_; clear hK)
    | (go_at_call 11; have _t := tk2; refine (HC.out _ a1 hE0).mono ?_; rintro e w9 ⟨rfl, hq⟩; have hE0 := hE0.next hq; have r1 := r1.later hq r1.lt; have q1 := q1.later hq q1.lt; have x1 := x1.later hq x1.lt; have a1 := a1.later (Nat.le_refl _) hq; have b1 := b1.later (Nat.le_refl _) hq; have ax := ax.later (Nat.le_refl _) hq; have hb0 := hb0.trans (hq.mono hb0.size); clear hq; clear tk2)
    | ((with_reducible refine wpList_step fun K hK => ?_); refine step_load_mid (some 44) rfl (by rfl) 31 (.tmp 9) rfl g9 0 rfl X _ (row_range x1) Tryz.underlying31 rfl hXX.out.z ?_; refine hK _ _ ?_; clear hK)
    | ((with_reducible refine wpList_step fun K hK => ?_); refine step_load_mid (some 45) rfl (by rfl) 31 (.tmp 3) rfl w.heap.size 0 rfl Q _ (row_range r1) Tryz.underlying31 rfl hXQ.out.z ?_; refine hK _ _ ?_; clear hK)
    | (go_at_call 13; have _t := tk3; refine (HSX.out _ ax a1 hE0).mono ?_; rintro e w9 ⟨rfl, hq⟩; have hE0 := hE0.next hq; have r1 := r1.later hq r1.lt; have q1 := q1.later hq q1.lt; have x1 := x1.later hq x1.lt; have a1 := a1.later (Nat.le_refl _) hq; have b1 := b1.later (Nat.le_refl _) hq; have ax := ax.later (Nat.le_refl _) hq; have hb0 := hb0.trans (hq.mono hb0.size); clear hq; clear tk3)
    | ((with_reducible refine wpList_step fun K hK => ?_); refine step_load_mid (some 53) rfl (by rfl) 31 (.tmp 4) rfl (w.heap.size + 1) 0 rfl P _ (row_range q1) Tryz.underlying31 rfl hXP.out.z ?_; refine hK _ _ ?_; clear hK)
    | (go_at_call 11; have _t := tk4; refine (HCq.out _ b1 hE0).mono ?_; rintro e w9 ⟨rfl, hq⟩; have hE0 := hE0.next hq; have r1 := r1.later hq r1.lt; have q1 := q1.later hq q1.lt; have x1 := x1.later hq x1.lt; have a1 := a1.later (Nat.le_refl _) hq; have b1 := b1.later (Nat.le_refl _) hq; have ax := ax.later (Nat.le_refl _) hq; have hb0 := hb0.trans (hq.mono hb0.size); clear hq; clear tk4)
    | ((with_reducible refine wpList_step fun K hK => ?_); refine step_load_mid (some 60) rfl (by rfl) 31 (.tmp 3) rfl w.heap.size 0 rfl Q _ (row_range r1) Tryz.underlying31 rfl hXQ.out.z ?_; refine hK _ _ ?_; clear hK)
    | ((with_reducible refine wpList_step fun K hK => ?_); refine step_load_mid (some 61) rfl (by rfl) 31 (.tmp 4) rfl (w.heap.size + 1) 0 rfl P _ (row_range q1) Tryz.underlying31 rfl hXP.out.z ?_; refine hK _ _ ?_; clear hK)
    | (go_at_call 13; have _t := tk5; refine (HS.out _ a1 b1 hE0).mono ?_; rintro e w9 ⟨rfl, hq⟩; have hE0 := hE0.next hq; have r1 := r1.later hq r1.lt; have q1 := q1.later hq q1.lt; have x1 := x1.later hq x1.lt; have a1 := a1.later (Nat.le_refl _) hq; have b1 := b1.later (Nat.le_refl _) hq; have ax := ax.later (Nat.le_refl _) hq; have hb0 := hb0.trans (hq.mono hb0.size); clear hq; clear tk5)
    | (go_at_call 7; refine (HPS.out _ hE0).mono ?_; intro e w7 hgv; obtain ⟨Ay, cy, rfl, ay, hq⟩ := gave_some hgv; clear hgv; have hXY := Lib.hid (prd23 y ay.ok.net.a Ay cy); have hE0 := hE0.next hq; have r1 := r1.later hq r1.lt; have q1 := q1.later hq q1.lt; have x1 := x1.later hq x1.lt; have a1 := a1.later (Nat.le_refl _) hq; have b1 := b1.later (Nat.le_refl _) hq; have ax := ax.later (Nat.le_refl _) hq; have hb0 := hb0.trans (hq.mono hb0.size); clear hq)
    | (have _t := hXY; refine wpList_store_row rfl 31 (.tmp 11) (.tmp 69) rfl w7.heap.size (prdV y Ay cy).toArray rfl rfl 31 _ (heap_alloc_new w7 _) hXY.out.z2 hXY.out.z8 hXY.out.o ?_; refine Hid.out ?_))
  refine Lib.hid ?_
  generalize hww : World.setRow _ _ _ = w8
  obtain ⟨y1, hq⟩ := row_new_set (xs := prdV y Ay cy) hww
  have hE0 := hE0.next hq; have r1 := r1.later hq r1.lt; have q1 := q1.later hq q1.lt; have x1 := x1.later hq x1.lt; have a1 := a1.later (Nat.le_refl _) hq; have b1 := b1.later (Nat.le_refl _) hq; have ax := ax.later (Nat.le_refl _) hq; have ay := ay.later (Nat.le_refl _) hq; have hb0 := hb0.trans (hq.mono hb0.size); clear hq
  clear hww
  generalize w7.heap.size = g11 at *
  clear ax x1
  obtain ⟨Y, hY⟩ : ∃ Y, Y = prdV y Ay cy := ⟨_, rfl⟩
  rw [← hY] at hXY y1
  have HCY := fun w' (h : PrdAt w' y Ay cy) h3 => HCY.out w' Ay cy h h3
  rw [← hY] at HCY
  have HCY := Lib.hid HCY
  have HTY := fun w' (h : PrdAt w' y Ay cy) h3 => HTY.out w' Ay cy h h3
  rw [← hY] at HTY
  have HTY := Lib.hid HTY
  clear hY
  have tk6 : True := trivial
  go_wp2_with (first
    | ((with_reducible refine wpList_step fun K hK => ?_); refine step_load_mid (some 86) rfl (by rfl) 31 (.tmp 11) rfl g11 0 rfl Y _ (row_range y1) Tryz.underlying31 rfl hXY.out.z ?_; refine hK _ _ ?_; clear hK)
    | (go_at_call 9; refine (HTY.out _ ay hE0).mono ?_; rintro e w9 ⟨rfl, hq⟩; have hE0 := hE0.next hq; have r1 := r1.later hq r1.lt; have q1 := q1.later hq q1.lt; have y1 := y1.later hq y1.lt; have a1 := a1.later (Nat.le_refl _) hq; have b1 := b1.later (Nat.le_refl _) hq; have ay := ay.later (Nat.le_refl _) hq; have hb0 := hb0.trans (hq.mono hb0.size); clear hq)
    | ((with_reducible refine wpList_step fun K hK => ?_); refine step_load_mid (some 92) rfl (by rfl) 31 (.tmp 11) rfl g11 0 rfl Y _ (row_range y1) Tryz.underlying31 rfl hXY.out.z ?_; refine hK _ _ ?_; clear hK)
    | (go_at_call 11; have _t := tk6; refine (HCY.out _ ay hE0).mono ?_; rintro e w9 ⟨rfl, hq⟩; have hE0 := hE0.next hq; have r1 := r1.later hq r1.lt; have q1 := q1.later hq q1.lt; have y1 := y1.later hq y1.lt; have a1 := a1.later (Nat.le_refl _) hq; have b1 := b1.later (Nat.le_refl _) hq; have ay := ay.later (Nat.le_refl _) hq; have hb0 := hb0.trans (hq.mono hb0.size); clear hq; clear tk6))
  go_ret
  exact ⟨rfl, hb0⟩
set_option maxHeartbeats 8000000 in
theorem qback_walk (p q : Prd) (A B : Option Addr) (c d : Nat) (s : List UInt8) (w : World) (hp : PrdArg w p A c) (hq : PrdArg w q B d) (hE0 : EnvQ w) :
    Calls Tryz.prog 4 #[.agg (prdV p A c).toArray, .agg (prdV q B d).toArray, .string (bstr s)] w fun e w' => e = .returned (.bool true) ∧ Below w.heap.size w w' := by
  by_cases hlp : 3000 < p.path.length + sumS p.names
  · have hal := Lib.hid (fun w' hE => qalive_any w' hE)
    have hzs := size_bstr s
    have hXQ := Lib.hid (prd23 p hp.ok.net.a A c)
    have hXP := Lib.hid (prd23 q hq.ok.net.a B d)
    obtain ⟨Q, hQ⟩ : ∃ Q, Q = prdV p A c := ⟨_, rfl⟩
    obtain ⟨P, hP⟩ : ∃ P, P = prdV q B d := ⟨_, rfl⟩
    obtain ⟨w1, hw1⟩ : ∃ w1, w1 = (w.alloc (.cells Q.toArray 31)).alloc (.cells P.toArray 31) := ⟨_, rfl⟩
    obtain ⟨r1, q1, hb0⟩ := two_prds hw1.symm
    have hE0 := hE0.next hb0
    have a1 := hp.later (Nat.le_refl _) hb0
    have b1 := hq.later (Nat.le_refl _) hb0
    have HLP := fun w' (h : PrdArg w' p A c) => qlong_any p A c w' h
    have HLQ := fun w' (h : PrdArg w' q B d) => qlong_any q B d w' h
    have HW := Lib.hid hw1
    have tokP : True := trivial
    have tokQ : True := trivial
    rw [longQ_one p hlp] at HLP
    clear hlp
    rw [← hQ] at hXQ HLP ⊢
    rw [← hP] at hXP HLQ ⊢
    have HLP := Lib.hid HLP
    have HLQ := Lib.hid HLQ
    clear hw1 hp hq hQ hP
    generalize bstr s = S at *
    go_enter Tryz.func4, Tryz.ntmps4
    go_wp2_with (first
      | (go_at_call 5; rw [← HW.out]; refine (hal.out _ hE0).mono ?_; rintro e w9 ⟨rfl, hq⟩; have hE0 := hE0.next hq; have r1 := r1.later hq r1.lt; have q1 := q1.later hq q1.lt; have a1 := a1.later (Nat.le_refl _) hq; have b1 := b1.later (Nat.le_refl _) hq; have hb0 := hb0.trans (hq.mono hb0.size); clear hq)
      | ((with_reducible refine wpList_step fun K hK => ?_); refine step_load_mid (some 15) rfl (by rfl) 31 (.tmp 3) rfl w.heap.size 0 rfl Q _ (row_range r1) Tryz.underlying31 rfl hXQ.out.z ?_; refine hK _ _ ?_; clear hK)
      | (go_at_call 6; have _t := tokP; refine (HLP.out _ a1).mono ?_; rintro e w9 ⟨rfl, hq⟩; have hE0 := hE0.next hq; have r1 := r1.later hq r1.lt; have q1 := q1.later hq q1.lt; have a1 := a1.later (Nat.le_refl _) hq; have b1 := b1.later (Nat.le_refl _) hq; have hb0 := hb0.trans (hq.mono hb0.size); clear hq; clear tokP))
    go_ret
    exact ⟨rfl, hb0⟩
  by_cases hlq : 3000 < q.path.length + sumS q.names
  · have hal := Lib.hid (fun w' hE => qalive_any w' hE)
    have hzs := size_bstr s
    have hXQ := Lib.hid (prd23 p hp.ok.net.a A c)
    have hXP := Lib.hid (prd23 q hq.ok.net.a B d)
    obtain ⟨Q, hQ⟩ : ∃ Q, Q = prdV p A c := ⟨_, rfl⟩
    obtain ⟨P, hP⟩ : ∃ P, P = prdV q B d := ⟨_, rfl⟩
    obtain ⟨w1, hw1⟩ : ∃ w1, w1 = (w.alloc (.cells Q.toArray 31)).alloc (.cells P.toArray 31) := ⟨_, rfl⟩
    obtain ⟨r1, q1, hb0⟩ := two_prds hw1.symm
    have hE0 := hE0.next hb0
    have a1 := hp.later (Nat.le_refl _) hb0
    have b1 := hq.later (Nat.le_refl _) hb0
    have HLP := fun w' (h : PrdArg w' p A c) => qlong_any p A c w' h
    have HLQ := fun w' (h : PrdArg w' q B d) => qlong_any q B d w' h
    have HW := Lib.hid hw1
    have tokP : True := trivial
    have tokQ : True := trivial
    rw [longQ_zero p (by omega)] at HLP
    rw [longQ_one q hlq] at HLQ
    clear hlp hlq
    rw [← hQ] at hXQ HLP ⊢
    rw [← hP] at hXP HLQ ⊢
    have HLP := Lib.hid HLP
    have HLQ := Lib.hid HLQ
    clear hw1 hp hq hQ hP
    generalize bstr s = S at *
    go_enter Tryz.func4, Tryz.ntmps4
    go_wp2_with (first
      | (go_at_call 5; rw [← HW.out]; refine (hal.out _ hE0).mono ?_; rintro e w9 ⟨rfl, hq⟩; have hE0 := hE0.next hq; have r1 := r1.later hq r1.lt; have q1 := q1.later hq q1.lt; have a1 := a1.later (Nat.le_refl _) hq; have b1 := b1.later (Nat.le_refl _) hq; have hb0 := hb0.trans (hq.mono hb0.size); clear hq)
      | ((with_reducible refine wpList_step fun K hK => ?_); refine step_load_mid (some 15) rfl (by rfl) 31 (.tmp 3) rfl w.heap.size 0 rfl Q _ (row_range r1) Tryz.underlying31 rfl hXQ.out.z ?_; refine hK _ _ ?_; clear hK)
      | (go_at_call 6; have _t := tokP; refine (HLP.out _ a1).mono ?_; rintro e w9 ⟨rfl, hq⟩; have hE0 := hE0.next hq; have r1 := r1.later hq r1.lt; have q1 := q1.later hq q1.lt; have a1 := a1.later (Nat.le_refl _) hq; have b1 := b1.later (Nat.le_refl _) hq; have hb0 := hb0.trans (hq.mono hb0.size); clear hq; clear tokP)
      | ((with_reducible refine wpList_step fun K hK => ?_); refine step_load_mid (some 19) rfl (by rfl) 31 (.tmp 4) rfl (w.heap.size + 1) 0 rfl P _ (row_range q1) Tryz.underlying31 rfl hXP.out.z ?_; refine hK _ _ ?_; clear hK)
      | (go_at_call 6; have _t := tokQ; refine (HLQ.out _ b1).mono ?_; rintro e w4 ⟨rfl, hq⟩; have hE0 := hE0.next hq; have r1 := r1.later hq r1.lt; have q1 := q1.later hq q1.lt; have a1 := a1.later (Nat.le_refl _) hq; have b1 := b1.later (Nat.le_refl _) hq; have hb0 := hb0.trans (hq.mono hb0.size); clear hq; clear tokQ))
    go_ret
    exact ⟨rfl, hb0⟩
  by_cases hl : 2000 < s.length
  · have hal := Lib.hid (fun w' hE => qalive_any w' hE)
    have hzs := size_bstr s
    have hXQ := Lib.hid (prd23 p hp.ok.net.a A c)
    have hXP := Lib.hid (prd23 q hq.ok.net.a B d)
    obtain ⟨Q, hQ⟩ : ∃ Q, Q = prdV p A c := ⟨_, rfl⟩
    obtain ⟨P, hP⟩ : ∃ P, P = prdV q B d := ⟨_, rfl⟩
    obtain ⟨w1, hw1⟩ : ∃ w1, w1 = (w.alloc (.cells Q.toArray 31)).alloc (.cells P.toArray 31) := ⟨_, rfl⟩
    obtain ⟨r1, q1, hb0⟩ := two_prds hw1.symm
    have hE0 := hE0.next hb0
    have a1 := hp.later (Nat.le_refl _) hb0
    have b1 := hq.later (Nat.le_refl _) hb0
    have HLP := fun w' (h : PrdArg w' p A c) => qlong_any p A c w' h
    have HLQ := fun w' (h : PrdArg w' q B d) => qlong_any q B d w' h
    have HW := Lib.hid hw1
    have tokP : True := trivial
    have tokQ : True := trivial
    rw [longQ_zero p (by omega)] at HLP
    rw [longQ_zero q (by omega)] at HLQ
    have hl' : (2000 : Int) < (s.length : Int) := by omega
    clear hlp hlq hl
    rw [← hQ] at hXQ HLP ⊢
    rw [← hP] at hXP HLQ ⊢
    have HLP := Lib.hid HLP
    have HLQ := Lib.hid HLQ
    clear hw1 hp hq hQ hP
    generalize bstr s = S at *
    go_enter Tryz.func4, Tryz.ntmps4
    go_wp2_with (first
      | (go_at_call 5; rw [← HW.out]; refine (hal.out _ hE0).mono ?_; rintro e w9 ⟨rfl, hq⟩; have hE0 := hE0.next hq; have r1 := r1.later hq r1.lt; have q1 := q1.later hq q1.lt; have a1 := a1.later (Nat.le_refl _) hq; have b1 := b1.later (Nat.le_refl _) hq; have hb0 := hb0.trans (hq.mono hb0.size); clear hq)
      | ((with_reducible refine wpList_step fun K hK => ?_); refine step_load_mid (some 15) rfl (by rfl) 31 (.tmp 3) rfl w.heap.size 0 rfl Q _ (row_range r1) Tryz.underlying31 rfl hXQ.out.z ?_; refine hK _ _ ?_; clear hK)
      | (go_at_call 6; have _t := tokP; refine (HLP.out _ a1).mono ?_; rintro e w9 ⟨rfl, hq⟩; have hE0 := hE0.next hq; have r1 := r1.later hq r1.lt; have q1 := q1.later hq q1.lt; have a1 := a1.later (Nat.le_refl _) hq; have b1 := b1.later (Nat.le_refl _) hq; have hb0 := hb0.trans (hq.mono hb0.size); clear hq; clear tokP)
      | ((with_reducible refine wpList_step fun K hK => ?_); refine step_load_mid (some 19) rfl (by rfl) 31 (.tmp 4) rfl (w.heap.size + 1) 0 rfl P _ (row_range q1) Tryz.underlying31 rfl hXP.out.z ?_; refine hK _ _ ?_; clear hK)
      | (go_at_call 6; have _t := tokQ; refine (HLQ.out _ b1).mono ?_; rintro e w4 ⟨rfl, hq⟩; have hE0 := hE0.next hq; have r1 := r1.later hq r1.lt; have q1 := q1.later hq q1.lt; have a1 := a1.later (Nat.le_refl _) hq; have b1 := b1.later (Nat.le_refl _) hq; have hb0 := hb0.trans (hq.mono hb0.size); clear hq; clear tokQ))
    go_ret
    exact ⟨rfl, hb0⟩
  by_cases fp : textP p = []
  · cases hy : parseP s with
    | none => exact qb_00 p q A B c d s w hp hq hE0 (by omega) (by omega) (by omega) fp hy
    | some y => exact qb_01 p q A B c d s w hp hq hE0 (by omega) (by omega) (by omega) fp y hy
  by_cases fq : textP q = []
  · cases hy : parseP s with
    | none => exact qb_10 p q A B c d s w hp hq hE0 (by omega) (by omega) (by omega) fp fq hy
    | some y => exact qb_11 p q A B c d s w hp hq hE0 (by omega) (by omega) (by omega) fp fq y hy
  cases hy : parseP s with
  | none => exact qb_20 p q A B c d s w hp hq hE0 (by omega) (by omega) (by omega) fp fq hy
  | some y => exact qb_21 p q A B c d s w hp hq hE0 (by omega) (by omega) (by omega) fp fq y hy
end Go.Proofs.YtgnhmpfoddfpdaaGreatDoor
