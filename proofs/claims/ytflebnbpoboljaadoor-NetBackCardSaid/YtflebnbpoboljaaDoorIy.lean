/- LAYER 12: the document's Parse of four bytes. -/
import Derived.Test.YtflebnbpoboljaaDoorIq
namespace Go.Proofs.YtflebnbpoboljaaDoor
set_option maxRecDepth 100000
open Go Go.RowKit

def parsV (o : Option Adr) : Value := match o with
  | none => .tuple #[.agg (adrV zeroA).toArray, .bool false]
  | some a => .tuple #[.agg (adrV a).toArray, .bool true]
set_option maxHeartbeats 2000000 in
theorem rparse_four (s : List UInt8) (hs : s.length ≤ 1000) (l : List Nat) (hn : numbersL 10 3 255 46 s = some l) (h4 : l.length = 4) (w : World) :
    Calls Tryd.prog 22 #[.string (bstr s)] w fun e w' => e = .returned (parsV (some (fourA l))) ∧ Below w.heap.size w w' := by
  have hm := ((numbersL_iff 10 3 255 46 (by omega) (by omega) (.inl rfl) s l).1 hn).2
  have hnum := Lib.hid (fun w' => rnumbers10_any s hs w')
  rw [hn] at hnum
  match l, h4, hm with
  | [a, b, c, d], _, hm =>
  have ha := (hm a (by simp)).1
  have hb := (hm b (by simp)).1
  have hc := (hm c (by simp)).1
  have hd := (hm d (by simp)).1
  have HF := Lib.hid (show (adrV (fourA [a, b, c, d])) = [.bool false, .int .u8 ((UInt8.ofNat a).toNat : Int), .int .u8 ((UInt8.ofNat b).toNat : Int), .int .u8 ((UInt8.ofNat c).toNat : Int), .int .u8 ((UInt8.ofNat d).toNat : Int)] ++ byts (List.replicate 12 0) from rfl)
  have hwa : IntKind.u8.wrap (a : Int) = ((UInt8.ofNat a).toNat : Int) := by rw [IntKind.wrap_u8, UInt8.toNat_ofNat']; omega
  have hwb : IntKind.u8.wrap (b : Int) = ((UInt8.ofNat b).toNat : Int) := by rw [IntKind.wrap_u8, UInt8.toNat_ofNat']; omega
  have hwc : IntKind.u8.wrap (c : Int) = ((UInt8.ofNat c).toNat : Int) := by rw [IntKind.wrap_u8, UInt8.toNat_ofNat']; omega
  have hwd : IntKind.u8.wrap (d : Int) = ((UInt8.ofNat d).toNat : Int) := by rw [IntKind.wrap_u8, UInt8.toNat_ofNat']; omega
  have r0 : Row (w.alloc (.cells (adrV zeroA).toArray 24)) w.heap.size 24 (adrV zeroA) := Row.new w _ _
  have hok : (fourA [a, b, c, d]).Ok := rfl
  have hsz := Lib.hid (show (Tryd.prog.info? 24).map (·.size) = some (adrV (fourA [a, b, c, d])).length by rw [size_adr, length_adrV hok])
  have HV1 := Lib.hid (adrV_one (fourA [a, b, c, d]))
  have HVl := Lib.hid (show 0 + (adrV (fourA [a, b, c, d])).length ≤ (adrV zeroA).length by rw [length_adrV hok, length_adrV zeroA_ok]; exact Nat.le_refl _)
  have HSP := Lib.hid (show splice (adrV zeroA) 0 (adrV (fourA [a, b, c, d])) = adrV (fourA [a, b, c, d]) from rfl)
  have hb0 : Below w.heap.size w (w.alloc (.cells (adrV zeroA).toArray 24)) := (Below.refl _ w).alloc (Nat.le_refl _) _
  clear hm hn
  go_enter Tryd.func22, Tryd.ntmps22
  go_wp2_with (go_at_call 37; refine (hnum.out _).mono ?_; rintro e w3 ⟨v3, rfl, ⟨u, rfl, hown⟩, hb3⟩; obtain ⟨A, cc, rfl, -, hsl⟩ := Sl.of_own hown; have hr3 := r0.later hb3 r0.lt; have hb3 := hb0.trans (hb3.mono hb0.size))
  obtain ⟨bk, o, rfl, -, -⟩ := hsl.rd.get (i := 0) (by rw [length_intsV]; simp)
  have hne : bk ≠ w.heap.size := own_apart hown (by rw [World.size_alloc]; omega) ⟨bk, o, none⟩ rfl
  have hcs := fun w' (hg : World.grownBy w3 w' (some w.heap.size)) => hsl.apart hg (fun _ a ha => by cases ha; exact hne)
  have hc0 : ∀ w', World.grownBy w3 w' (some w.heap.size) → w'.cell? ⟨bk, o, none⟩ = some (.int .i64 (a : Int)) := fun w' hg => ints_cell (hcs w' hg) 0 (by simp)
  have hc1 : ∀ w', World.grownBy w3 w' (some w.heap.size) → w'.cell? ⟨bk, o + 1, none⟩ = some (.int .i64 (b : Int)) := fun w' hg => ints_cell (hcs w' hg) 1 (by simp)
  have hc2 : ∀ w', World.grownBy w3 w' (some w.heap.size) → w'.cell? ⟨bk, o + 2, none⟩ = some (.int .i64 (c : Int)) := fun w' hg => ints_cell (hcs w' hg) 2 (by simp)
  have hc3 : ∀ w', World.grownBy w3 w' (some w.heap.size) → w'.cell? ⟨bk, o + 3, none⟩ = some (.int .i64 (d : Int)) := fun w' hg => ints_cell (hcs w' hg) 3 (by simp)
  have hb3g := hb3.size
  clear hcs hsl hown r0 hb0
  generalize adrV (fourA [a, b, c, d]) = V at *
  refine wp_region_noPanic ?_
  refine wp_region_held_drew (S := fun w' => World.grownBy w3 w' (some w.heap.size)) (by kernel_rfl) (grown_of_below (Below.refl _ _).drew _) (fun hHeld => ?_)
  refine rtake 0 _ (some 23) _ rfl rfl (by kernel_rfl) (by kernel_rfl) (by kernel_rfl) (fun _ _ _ h => h) (by rfl) hHeld (by intro w hS; go_simp; try with_reducible rfl) ?_
  try (first | (rw [put_some]; dsimp only [List.set]) | rw [put_none])
  refine rtake 1 _ (some 24) _ rfl rfl (by kernel_rfl) (by kernel_rfl) (by kernel_rfl) (fun _ _ _ h => h) (by rfl) hHeld (by intro w hS; go_simp; try with_reducible rfl) ?_
  try (first | (rw [put_some]; dsimp only [List.set]) | rw [put_none])
  refine rtake 2 _ (some 25) _ rfl rfl (by kernel_rfl) (by kernel_rfl) (by kernel_rfl) (fun _ _ _ h => h) (by rfl) hHeld (by intro w hS; go_simp; try with_reducible rfl) ?_
  try (first | (rw [put_some]; dsimp only [List.set]) | rw [put_none])
  refine rtake 3 _ (some 26) _ rfl rfl (by kernel_rfl) (by kernel_rfl) (by kernel_rfl) (fun _ _ _ h => h) (by rfl) hHeld (by intro w hS; go_simp; try with_reducible rfl) ?_
  try (first | (rw [put_some]; dsimp only [List.set]) | rw [put_none])
  refine rtake 4 _ (some 27) _ rfl rfl (by kernel_rfl) (by kernel_rfl) (by kernel_rfl) (fun _ _ _ h => h) (by rfl) hHeld (by intro w hS; go_simp; try with_reducible rfl) ?_
  try (first | (rw [put_some]; dsimp only [List.set]) | rw [put_none])
  refine rtake 5 _ (some 28) _ rfl rfl (by kernel_rfl) (by kernel_rfl) (by kernel_rfl) (fun _ _ _ h => h) (by rfl) hHeld (by intro w hS; go_simp; try with_reducible rfl) ?_
  try (first | (rw [put_some]; dsimp only [List.set]) | rw [put_none])
  refine rtake 6 _ (some 29) _ rfl rfl (by kernel_rfl) (by kernel_rfl) (by kernel_rfl) (fun _ _ _ h => h) (by rfl) hHeld (by intro w hS; go_simp; try with_reducible rfl) ?_
  try (first | (rw [put_some]; dsimp only [List.set]) | rw [put_none])
  refine rtake 7 _ (some 30) _ rfl rfl (by kernel_rfl) (by kernel_rfl) (by kernel_rfl) (fun _ _ _ h => h) (by rfl) hHeld (by intro w hS; go_simp; try with_reducible rfl) ?_
  try (first | (rw [put_some]; dsimp only [List.set]) | rw [put_none])
  refine rtake 8 _ (some 31) _ rfl rfl (by kernel_rfl) (by kernel_rfl) (by kernel_rfl) (fun _ _ _ h => h) (by rfl) hHeld (by intro w hS; go_simp; try with_reducible rfl) ?_
  try (first | (rw [put_some]; dsimp only [List.set]) | rw [put_none])
  refine rtake 9 _ (some 32) _ rfl rfl (by kernel_rfl) (by kernel_rfl) (by kernel_rfl) (fun _ _ _ h => h) (by rfl) hHeld (by intro w hS; go_simp; try with_reducible rfl) ?_
  try (first | (rw [put_some]; dsimp only [List.set]) | rw [put_none])
  refine rtake 10 _ (some 33) _ rfl rfl (by kernel_rfl) (by kernel_rfl) (by kernel_rfl) (fun _ _ _ h => h) (by rfl) hHeld (by intro w hS; go_simp; try with_reducible rfl) ?_
  try (first | (rw [put_some]; dsimp only [List.set]) | rw [put_none])
  refine rtake 11 _ (some 34) _ rfl rfl (by kernel_rfl) (by kernel_rfl) (by kernel_rfl) (fun _ _ _ h => h) (by rfl) hHeld (by intro w hS; go_simp; try with_reducible rfl) ?_
  try (first | (rw [put_some]; dsimp only [List.set]) | rw [put_none])
  refine rtake 12 _ (some 35) _ rfl rfl (by kernel_rfl) (by kernel_rfl) (by kernel_rfl) (fun _ _ _ h => h) (by rfl) hHeld (by intro w hS; go_simp; try with_reducible rfl) ?_
  try (first | (rw [put_some]; dsimp only [List.set]) | rw [put_none])
  refine rtake 13 _ (some 36) _ rfl rfl (by kernel_rfl) (by kernel_rfl) (by kernel_rfl) (fun _ _ _ h => h) (by rfl) hHeld (by intro w hS; go_simp; try with_reducible rfl) ?_
  try (first | (rw [put_some]; dsimp only [List.set]) | rw [put_none])
  refine rtake 14 _ (some 37) _ rfl rfl (by kernel_rfl) (by kernel_rfl) (by kernel_rfl) (fun _ _ _ h => h) (by rfl) hHeld (by intro w hS; go_simp; try with_reducible rfl) ?_
  try (first | (rw [put_some]; dsimp only [List.set]) | rw [put_none])
  refine rtake 15 _ (some 38) _ rfl rfl (by kernel_rfl) (by kernel_rfl) (by kernel_rfl) (fun _ _ _ h => h) (by rfl) hHeld (by intro w hS; go_simp; try with_reducible rfl) ?_
  try (first | (rw [put_some]; dsimp only [List.set]) | rw [put_none])
  refine rtake 16 _ (some 39) _ rfl rfl (by kernel_rfl) (by kernel_rfl) (by kernel_rfl) (fun _ _ _ h => h) (by rfl) hHeld (by intro w hS; go_simp; try with_reducible rfl) ?_
  try (first | (rw [put_some]; dsimp only [List.set]) | rw [put_none])
  refine rtake 17 _ (some 40) _ rfl rfl (by kernel_rfl) (by kernel_rfl) (by kernel_rfl) (fun _ _ _ h => h) (by rfl) hHeld (by intro w hS; go_simp; try with_reducible rfl) ?_
  try (first | (rw [put_some]; dsimp only [List.set]) | rw [put_none])
  refine wpAnyH_ready (rs := [18]) (by kernel_rfl) (by simp) (AllReadyH.cons (o := _) rfl (fun K hK => ?_) AllReadyH.nil)
  refine step_store_row none rfl (by rfl) 24 (.tmp 2) (.tmp 40) rfl w.heap.size 0 24 (adrV zeroA) V rfl (by rw [HF.out]; rfl) (hr3.later (Below.refl _ _).drew hr3.lt) HVl.out hsz.out HV1.out ?_; intro w4 hr4 hg4; have hr4 : Row w4 w.heap.size 24 V := (by rw [HSP.out] at hr4; exact hr4)
  refine hK.out _ _ (grown_trans hHeld hg4) (fun hHeld => ?_)
  clear hK K
  try (first | (rw [put_some]; dsimp only [List.set]) | rw [put_none])
  refine rtake 19 _ (some 3) _ rfl rfl (by kernel_rfl) (by kernel_rfl) (by kernel_rfl) (fun _ _ _ h => h) (by rfl) hHeld (by intro w hS; go_simp; try with_reducible rfl) ?_
  try (first | (rw [put_some]; dsimp only [List.set]) | rw [put_none])
  refine wpAnyH_done (by kernel_rfl) ?_ _
  refine NoPanic.normal ?_
  have hb5 : Below w.heap.size w w4 := hb3.drew.grown hg4 hb3g (fun k h => by cases h; exact Nat.le_refl _)
  have hszA := Lib.hid (show (Tryd.prog.info? 24).map (·.size) = some V.toArray.size by rw [List.size_toArray]; exact hsz.out)
  have R4 := Lib.hid (show w4.heap[w.heap.size]? = some (.cells V.toArray 24 (0, 0)) from hr4)
  clear hHeld hr4 hg4
  go_wp2_with fail
  exact ⟨rfl, _, results_row_tmp rfl _ _ w.heap.size 24 V.toArray (0, 0) _ rfl R4.out Tryd.underlying24 rfl hszA.out _ rfl, by rw [HF.out]; rfl, hb5⟩
end Go.Proofs.YtflebnbpoboljaaDoor
