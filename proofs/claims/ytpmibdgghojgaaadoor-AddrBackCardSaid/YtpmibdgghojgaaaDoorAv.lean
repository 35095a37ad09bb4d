/- LAYER 12: package addr: Parse. -/
import Derived.Test.YtpmibdgghojgaaaDoorAu
import Derived.Test.YtpmibdgghojgaaaDoorIw
namespace Go.Proofs.YtpmibdgghojgaaaDoor
set_option maxRecDepth 100000
open Go Go.RowKit

set_option maxHeartbeats 4000000 in
theorem aparse_any (s : List UInt8) (hs : s.length ≤ 100000) (w : World) (hE : Env w) :
    Calls Tryd.prog 6 #[.string (bstr s)] w fun e w' => e = .returned (parsV (parseL s)) ∧ Below w.heap.size w w' := by
  have hrd := Lib.hid (fun w' hE => aread_any s hs w' hE)
  have hok := readF_ok s
  have htx := Lib.hid (fun w' hE => atext_any (readF s) hok w' hE)
  have HP := Lib.hid (parse_read s)
  obtain ⟨V, hV⟩ : ∃ V, V = adrV (readF s) := ⟨_, rfl⟩
  obtain ⟨Z, hZ⟩ : ∃ Z, Z = adrV zeroA := ⟨_, rfl⟩
  have hVl : V.length = 17 := by rw [hV]; exact length_adrV hok
  have hZl : Z.length = 17 := by rw [hZ]; exact length_adrV zeroA_ok
  have hsz := Lib.hid (show (Tryd.prog.info? 24).map (·.size) = some V.toArray.size by rw [size_adr, List.size_toArray, hVl])
  have hszZ := Lib.hid (show (Tryd.prog.info? 24).map (·.size) = some Z.toArray.size by rw [size_adr, List.size_toArray, hZl])
  have hV1 := Lib.hid (show V.toArray.all (·.oneCell') = true from all_one (by rw [hV]; exact adrV_one _))
  have hZ1 := Lib.hid (show Z.toArray.all (·.oneCell') = true from all_one (by rw [hZ]; exact adrV_one _))
  have hVs := Lib.hid (show Z.toArray.size = V.toArray.size by rw [List.size_toArray, List.size_toArray, hVl, hZl])
  have HPs := Lib.hid (show ∀ b, (b = true → textA (readF s) = s) → (b = false → textA (readF s) ≠ s) → parsV (parseL s) = .tuple #[.agg (if b then V else Z).toArray, .bool b] by
    intro b h1 h2
    rw [HP.out]
    cases b with
    | true => rw [if_pos (h1 rfl), hV]; rfl
    | false => rw [if_neg (h2 rfl), hZ]; rfl)
  rw [← hV] at hrd htx
  have htl := bstr_beq (textA (readF s)) s
  have h17 := Lib.hid (show 17 = V.toArray.size by rw [List.size_toArray, hVl])
  obtain ⟨w1, hw1⟩ : ∃ w1, w1 = w.alloc (.cells (adrV zeroA).toArray 24) := ⟨_, rfl⟩
  have r1 : Row w1 w.heap.size 24 Z := by rw [hw1, hZ]; exact Row.new w _ _
  have hb1 : Below w.heap.size w w1 := by rw [hw1]; exact (Below.refl _ w).alloc (Nat.le_refl _) _
  have hE1 := hE.next hb1
  by_cases hT : textA (readF s) = s
  · have HX := Lib.hid (show parsV (parseL s) = .tuple #[.agg V.toArray, .bool true] from HPs.out true (fun _ => hT) (fun h => by cases h))
    rw [decide_eq_true hT] at htl
    clear hV hZ hok hE HPs HP hT hVl hZl
    generalize textA (readF s) = X at *
    generalize bstr X = T at *
    generalize hSe : bstr s = S at *
    clear hSe
    go_enter Tryd.func6, Tryd.ntmps6
    go_wp2_with (first
      | (go_at_call 14; change Calls _ _ _ (w.alloc (.cells (adrV zeroA).toArray 24)) _; rw [← hw1]; clear hw1; refine (hrd.out _ hE1).mono ?_; rintro e w2 ⟨rfl, hb2⟩; have r2 := r1.later hb2 r1.lt; have hE2 := hE1.next hb2; have hb2 := hb1.trans (hb2.mono hb1.size))
      | (have _t := hE2; refine wpList_store_row rfl 24 (.tmp 4) (.tmp 6) rfl w2.heap.size V.toArray rfl rfl 24 _ (heap_alloc_new w2 _) hsz.out h17.out hV1.out ?_; refine Hid.out ?_))
    refine Lib.hid ?_
    generalize hw3 : World.setRow _ _ _ = w3
    obtain ⟨r3, hb3'⟩ := row_new_set hw3
    have hE3 := hE2.next hb3'
    have r3b := r2.later hb3' r2.lt
    have hb3 := hb2.trans (hb3'.mono hb2.size)
    have hlt3 := r2.lt
    have HR3 := Lib.hid (show w3.heap[w2.heap.size]? = some (.cells V.toArray 24 (0, 0)) from r3)
    clear hw3 hb3'
    have tok2 : True := trivial
    go_wp2_with (first
      | (have _t := tok2; with_reducible refine wpList_load_row rfl 24 (.tmp 4) rfl w2.heap.size rfl 24 V.toArray (0, 0) _ HR3.out Tryd.underlying24 rfl hsz.out ?_; clear tok2)
      | (go_at_call 10; refine (htx.out _ hE3).mono ?_; rintro e w4 ⟨rfl, hb4⟩; have r4 := r3.later hb4 r3.lt; have r4b := r3b.later hb4 r3b.lt; have hb4 := hb3.trans (hb4.mono hb3.size); have HR4 := Lib.hid (show w4.heap[w2.heap.size]? = some (.cells V.toArray 24 (0, 0)) from r4); have H4 := Lib.hid (show w4.heap[w.heap.size]? = some (.cells Z.toArray 24 (0, 0)) from r4b); clear r3 r3b r4 r4b)
      | (with_reducible refine wpList_load_row rfl 24 (.tmp 4) rfl w2.heap.size rfl 24 V.toArray (0, 0) _ HR4.out Tryd.underlying24 rfl hsz.out ?_)
      | (with_reducible refine wpList_store_row rfl 24 (.tmp 2) (.tmp 12) rfl w.heap.size V.toArray rfl rfl 24 Z.toArray H4.out hsz.out hVs.out hV1.out ?_; refine Hid.out ?_))
    refine Lib.hid ?_
    generalize hw8 : World.setRow _ _ _ = w8
    obtain ⟨r8, hg8⟩ := row_set (show Row w4 w.heap.size 24 Z from H4.out) hw8
    have hb8 := hb4.grown hg8 hb4.size (fun k h => by cases h; exact Nat.le_refl _)
    have R8 := Lib.hid (show w8.heap[w.heap.size]? = some (.cells V.toArray 24 (0, 0)) from r8)
    clear hw8 r8 hg8 H4 HR4
    go_wp2_with fail
    exact ⟨rfl, _, results_row_tmp rfl _ _ w.heap.size 24 V.toArray (0, 0) _ rfl R8.out Tryd.underlying24 rfl hsz.out _ rfl, by rw [HX.out]; rfl, hb8⟩
  · have HX := Lib.hid (show parsV (parseL s) = .tuple #[.agg Z.toArray, .bool false] from HPs.out false (fun h => by cases h) (fun _ => hT))
    rw [decide_eq_false hT] at htl
    have HZ := Lib.hid hZ
    clear hV hZ hok hE HPs HP hT hVl hZl
    generalize textA (readF s) = X at *
    generalize bstr X = T at *
    generalize hSe : bstr s = S at *
    clear hSe
    go_enter Tryd.func6, Tryd.ntmps6
    go_wp2_with (first
      | (go_at_call 14; change Calls _ _ _ (w.alloc (.cells (adrV zeroA).toArray 24)) _; rw [← hw1]; clear hw1; refine (hrd.out _ hE1).mono ?_; rintro e w2 ⟨rfl, hb2⟩; have r2 := r1.later hb2 r1.lt; have hE2 := hE1.next hb2; have hb2 := hb1.trans (hb2.mono hb1.size))
      | (have _t := hE2; refine wpList_store_row rfl 24 (.tmp 4) (.tmp 6) rfl w2.heap.size V.toArray rfl rfl 24 _ (heap_alloc_new w2 _) hsz.out h17.out hV1.out ?_; refine Hid.out ?_))
    refine Lib.hid ?_
    generalize hw3 : World.setRow _ _ _ = w3
    obtain ⟨r3, hb3'⟩ := row_new_set hw3
    have hE3 := hE2.next hb3'
    have r3b := r2.later hb3' r2.lt
    have hb3 := hb2.trans (hb3'.mono hb2.size)
    have hlt3 := r2.lt
    have HR3 := Lib.hid (show w3.heap[w2.heap.size]? = some (.cells V.toArray 24 (0, 0)) from r3)
    clear hw3 hb3'
    have tok2 : True := trivial
    go_wp2_with (first
      | (have _t := tok2; with_reducible refine wpList_load_row rfl 24 (.tmp 4) rfl w2.heap.size rfl 24 V.toArray (0, 0) _ HR3.out Tryd.underlying24 rfl hsz.out ?_; clear tok2)
      | (go_at_call 10; refine (htx.out _ hE3).mono ?_; rintro e w4 ⟨rfl, hb4⟩; have r4 := r3.later hb4 r3.lt; have r4b := r3b.later hb4 r3b.lt; have hb4 := hb3.trans (hb4.mono hb3.size); have HR4 := Lib.hid (show w4.heap[w2.heap.size]? = some (.cells V.toArray 24 (0, 0)) from r4); have H4 := Lib.hid (show w4.heap[w.heap.size]? = some (.cells Z.toArray 24 (0, 0)) from r4b); clear r3 r3b r4 r4b)
      | (have _t := H4; refine wpList_store_row rfl 24 (.tmp 2) (.tmp 11) rfl w.heap.size Z.toArray rfl (by rw [HZ.out]; rfl) 24 Z.toArray H4.out hszZ.out rfl hZ1.out ?_; refine Hid.out ?_))
    refine Lib.hid ?_
    generalize hw8 : World.setRow _ _ _ = w8
    obtain ⟨r8, hg8⟩ := row_set (show Row w4 w.heap.size 24 Z from H4.out) hw8
    have hb8 := hb4.grown hg8 hb4.size (fun k h => by cases h; exact Nat.le_refl _)
    have R8 := Lib.hid (show w8.heap[w.heap.size]? = some (.cells Z.toArray 24 (0, 0)) from r8)
    clear hw8 r8 hg8 H4 HR4
    go_wp2_with fail
    exact ⟨rfl, _, results_row_tmp rfl _ _ w.heap.size 24 Z.toArray (0, 0) _ rfl R8.out Tryd.underlying24 rfl hszZ.out _ rfl, by rw [HX.out]; rfl, hb8⟩
end Go.Proofs.YtpmibdgghojgaaaDoor
