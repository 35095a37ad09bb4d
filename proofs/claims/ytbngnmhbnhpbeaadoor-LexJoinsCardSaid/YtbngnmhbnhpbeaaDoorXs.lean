/- LAYER 16: the document's Same: two rows of words. -/
import Derived.Test.YtbngnmhbnhpbeaaDoorXn
import Derived.Test.YtbngnmhbnhpbeaaDoorWd
import Derived.Test.YtbngnmhbnhpbeaaDoorO6
namespace Go.Proofs.YtbngnmhbnhpbeaaDoor
set_option maxRecDepth 100000
open Go Go.RowKit

/-- An operation whose guard stands open is as one without a guard. -/
theorem wpList_open {P : Program} {ops : Array Oper} {Q : Exit → Act → World → Prop} {a : Act} {w : World} {rest : List Oper} {d : Option Nat} {op : Op} {t : TypeId} {pos : String} {af : Array Edge} {g : Option (Nat × Bool)}
    (hw : Region.wanted ⟨d, op, t, pos, af, g⟩ (yielded ops a.tmps) = true) (h : wpList P ops Q (⟨d, op, t, pos, af, none⟩ :: rest) a w) : wpList P ops Q (⟨d, op, t, pos, af, g⟩ :: rest) a w := by
  unfold wpList at h ⊢
  rw [if_pos hw]
  rw [if_pos (show Region.wanted ⟨d, op, t, pos, af, none⟩ (yielded ops a.tmps) = true from rfl)] at h
  exact h
theorem take_same16 (xs ys : List (List UInt8)) (k : Nat) (h1 : k < xs.length) (h2 : k < ys.length) (h : xs.take k = ys.take k) (he : xs.getD k [] = ys.getD k []) : xs.take (k + 1) = ys.take (k + 1) := by
  rw [List.take_add_one, List.take_add_one, h]
  rw [List.getD_eq_getElem?_getD, List.getD_eq_getElem?_getD, List.getElem?_eq_getElem h1, List.getElem?_eq_getElem h2] at he
  rw [List.getElem?_eq_getElem h1, List.getElem?_eq_getElem h2]
  have he : xs[k] = ys[k] := he
  rw [he]
set_option maxHeartbeats 2000000 in
theorem same16_any (xs ys : List (List UInt8)) (hx : xs.length ≤ 1000000) (A B : Option Addr) (c d : Nat) (w : World) (hs : Sl w A c (strsV xs)) (ht : Sl w B d (strsV ys)) :
    Calls Tryd.prog 13 #[.slice A xs.length c, .slice B ys.length d] w fun e w' => e = .returned (.bool (decide (xs = ys))) ∧ Below w.heap.size w w' := by
  obtain ⟨V, hV⟩ : ∃ V, V = decide (xs = ys) := ⟨_, rfl⟩
  rw [← hV]
  have HV := Lib.hid hV
  clear hV
  by_cases hl : xs.length = ys.length
  · have hl' : ((xs.length : Int) != (ys.length : Int)) = false := by rw [hl]; simp
    obtain ⟨n, hn⟩ : ∃ n, n = xs.length := ⟨_, rfl⟩
    have HX := Lib.hid hn
    have HY := Lib.hid (hn.trans hl)
    rw [← HY.out, ← HX.out] at hl'
    rw [← HX.out, ← HY.out]
    have hnb : n ≤ 1000000 := by have := HX.out; omega
    clear hl hn
    go_enter Tryd.func13, Tryd.ntmps13
    go_wp2
    clear hl'
    go_loopw [13] (fun i wr => ∃ k : Nat, k ≤ n ∧ i = .int .i64 k ∧ xs.take k = ys.take k ∧ Below w.heap.size w wr) (fun i _ => n - (intOf i).toNat)
    case atStart => exact ⟨0, by omega, rfl, rfl, Below.refl _ _⟩
    case round =>
      obtain ⟨k, hk, rfl, htk, hb⟩ := hrel
      by_cases hlt : k < n
      · have hlt' : (k : Int) < (n : Int) := by omega
        have h1 : k < xs.length := by have := HX.out; omega
        have h2 : k < ys.length := by have := HY.out; omega
        obtain ⟨b1, o1, rfl, -, -⟩ := hs.rd.get (i := k) (by rw [length_strsV]; exact h1)
        obtain ⟨b2, o2, rfl, -, -⟩ := ht.rd.get (i := k) (by rw [length_strsV]; exact h2)
        have hix1 := index_strs (some ⟨b1, o1, none⟩) b1 o1 n c k rfl hlt
        have hix2 := index_strs (some ⟨b2, o2, none⟩) b2 o2 n d k rfl hlt
        have hc1 := strs_cell (hs.later (Nat.le_refl _) hb) k h1
        have hc2 := strs_cell (ht.later (Nat.le_refl _) hb) k h2
        have he := bstr_beq (xs.getD k []) (ys.getD k [])
        have HT := Lib.hid (fun h => take_same16 xs ys k h1 h2 htk h)
        have HN := Lib.hid (show xs.getD k [] ≠ ys.getD k [] → V = false from fun h => by rw [HV.out]; exact decide_eq_false (fun e => h (by rw [e])))
        generalize xs.getD k [] = x at *
        generalize ys.getD k [] = y at *
        clear h1 h2 htk
        by_cases hxy : x = y
        · have HT2 := Lib.hid (HT.out hxy)
          rw [decide_eq_true hxy] at he
          clear HT HN hxy
          go_wp2
          refine wp_region_noPanic ?_
          refine wp_region_held_drew (S := fun w' => w' = wr.drew) (by kernel_rfl) rfl (fun hHeld => ?_)
          refine rtake 0 _ (some 16) _ rfl rfl (by kernel_rfl) (by kernel_rfl) (by kernel_rfl) (fun _ _ _ h => h) (by rfl) hHeld (by intro w hS; subst hS; go_simp; try with_reducible rfl) ?_
          try (first | (rw [put_some]; dsimp only [List.set]) | rw [put_none])
          refine rtake 1 _ (some 17) _ rfl rfl (by kernel_rfl) (by kernel_rfl) (by kernel_rfl) (fun _ _ _ h => h) (by rfl) hHeld (by intro w hS; subst hS; go_simp; try with_reducible rfl) ?_
          try (first | (rw [put_some]; dsimp only [List.set]) | rw [put_none])
          refine rtake 2 _ (some 18) _ rfl rfl (by kernel_rfl) (by kernel_rfl) (by kernel_rfl) (fun _ _ _ h => h) (by rfl) hHeld (by intro w hS; subst hS; go_simp; try with_reducible rfl) ?_
          try (first | (rw [put_some]; dsimp only [List.set]) | rw [put_none])
          refine rtake 3 _ (some 19) _ rfl rfl (by kernel_rfl) (by kernel_rfl) (by kernel_rfl) (fun _ _ _ h => h) (by rfl) hHeld (by intro w hS; subst hS; go_simp; try with_reducible rfl) ?_
          try (first | (rw [put_some]; dsimp only [List.set]) | rw [put_none])
          refine rtake 4 _ (some 20) _ rfl rfl (by kernel_rfl) (by kernel_rfl) (by kernel_rfl) (fun _ _ _ h => h) (by rfl) hHeld (by intro w hS; subst hS; go_simp; try with_reducible rfl) ?_
          try (first | (rw [put_some]; dsimp only [List.set]) | rw [put_none])
          refine rtake 5 _ (some 21) _ rfl rfl (by kernel_rfl) (by kernel_rfl) (by kernel_rfl) (fun _ _ _ h => h) (by rfl) hHeld (by intro w hS; subst hS; go_simp; try with_reducible rfl) ?_
          try (first | (rw [put_some]; dsimp only [List.set]) | rw [put_none])
          refine rtake 6 _ (some 22) _ rfl rfl (by kernel_rfl) (by kernel_rfl) (by kernel_rfl) (fun _ _ _ h => h) (by rfl) hHeld (by intro w hS; subst hS; go_simp; try with_reducible rfl) ?_
          try (first | (rw [put_some]; dsimp only [List.set]) | rw [put_none])
          refine rtake 7 _ (some 23) _ rfl rfl (by kernel_rfl) (by kernel_rfl) (by kernel_rfl) (fun _ _ _ h => h) (by rfl) hHeld (by intro w hS; subst hS; go_simp; try with_reducible rfl) ?_
          try (first | (rw [put_some]; dsimp only [List.set]) | rw [put_none])
          refine rtake 8 _ (some 24) _ rfl rfl (by kernel_rfl) (by kernel_rfl) (by kernel_rfl) (fun _ _ _ h => h) (by rfl) hHeld (by intro w hS; subst hS; go_simp; try with_reducible rfl) ?_
          try (first | (rw [put_some]; dsimp only [List.set]) | rw [put_none])
          refine wpAnyH_done (by kernel_rfl) ?_ _
          refine NoPanic.normal ?_
          go_wp2
          go_roundw
          case rel => exact ⟨k + 1, by omega, by go_num, HT2.out, hb.drew⟩
          case measure => simp [intOf]; omega
        · have HW := Lib.hid (HN.out hxy)
          rw [decide_eq_false hxy] at he
          clear HT HN hxy
          go_wp2
          refine wp_region_noPanic ?_
          refine wp_region_held_drew (S := fun w' => w' = wr.drew) (by kernel_rfl) rfl (fun hHeld => ?_)
          refine rtake 0 _ (some 16) _ rfl rfl (by kernel_rfl) (by kernel_rfl) (by kernel_rfl) (fun _ _ _ h => h) (by rfl) hHeld (by intro w hS; subst hS; go_simp; try with_reducible rfl) ?_
          try (first | (rw [put_some]; dsimp only [List.set]) | rw [put_none])
          refine rtake 1 _ (some 17) _ rfl rfl (by kernel_rfl) (by kernel_rfl) (by kernel_rfl) (fun _ _ _ h => h) (by rfl) hHeld (by intro w hS; subst hS; go_simp; try with_reducible rfl) ?_
          try (first | (rw [put_some]; dsimp only [List.set]) | rw [put_none])
          refine rtake 2 _ (some 18) _ rfl rfl (by kernel_rfl) (by kernel_rfl) (by kernel_rfl) (fun _ _ _ h => h) (by rfl) hHeld (by intro w hS; subst hS; go_simp; try with_reducible rfl) ?_
          try (first | (rw [put_some]; dsimp only [List.set]) | rw [put_none])
          refine rtake 3 _ (some 19) _ rfl rfl (by kernel_rfl) (by kernel_rfl) (by kernel_rfl) (fun _ _ _ h => h) (by rfl) hHeld (by intro w hS; subst hS; go_simp; try with_reducible rfl) ?_
          try (first | (rw [put_some]; dsimp only [List.set]) | rw [put_none])
          refine rtake 4 _ (some 20) _ rfl rfl (by kernel_rfl) (by kernel_rfl) (by kernel_rfl) (fun _ _ _ h => h) (by rfl) hHeld (by intro w hS; subst hS; go_simp; try with_reducible rfl) ?_
          try (first | (rw [put_some]; dsimp only [List.set]) | rw [put_none])
          refine rtake 5 _ (some 21) _ rfl rfl (by kernel_rfl) (by kernel_rfl) (by kernel_rfl) (fun _ _ _ h => h) (by rfl) hHeld (by intro w hS; subst hS; go_simp; try with_reducible rfl) ?_
          try (first | (rw [put_some]; dsimp only [List.set]) | rw [put_none])
          refine rtake 6 _ (some 22) _ rfl rfl (by kernel_rfl) (by kernel_rfl) (by kernel_rfl) (fun _ _ _ h => h) (by rfl) hHeld (by intro w hS; subst hS; go_simp; try with_reducible rfl) ?_
          try (first | (rw [put_some]; dsimp only [List.set]) | rw [put_none])
          refine rtake 7 _ (some 23) _ rfl rfl (by kernel_rfl) (by kernel_rfl) (by kernel_rfl) (fun _ _ _ h => h) (by rfl) hHeld (by intro w hS; subst hS; go_simp; try with_reducible rfl) ?_
          try (first | (rw [put_some]; dsimp only [List.set]) | rw [put_none])
          refine rtake 8 _ (some 24) _ rfl rfl (by kernel_rfl) (by kernel_rfl) (by kernel_rfl) (fun _ _ _ h => h) (by rfl) hHeld (by intro w hS; subst hS; go_simp; try with_reducible rfl) ?_
          try (first | (rw [put_some]; dsimp only [List.set]) | rw [put_none])
          refine wpAnyH_done (by kernel_rfl) ?_ _
          refine NoPanic.normal ?_
          go_wp2
          go_ret
          exact ⟨by rw [HW.out]; rfl, hb.drew⟩
      · obtain rfl : k = n := by omega
        have HW := Lib.hid (show V = true by
          rw [HV.out, decide_eq_true_iff]
          have h1 := HX.out
          have h2 := HY.out
          rw [List.take_of_length_le (by omega), List.take_of_length_le (by omega)] at htk
          exact htk)
        clear htk
        go_wp2
        go_ret
        exact ⟨by rw [HW.out]; rfl, hb⟩
  · have hl' : ((xs.length : Int) != (ys.length : Int)) = true := by rw [bne_iff_ne]; omega
    have HW := Lib.hid (show V = false by rw [HV.out, decide_eq_false (fun h => hl (by rw [h]))])
    clear HV hl
    go_enter Tryd.func13, Tryd.ntmps13
    go_wp2
    go_ret
    exact ⟨by rw [HW.out]; rfl, Below.refl _ _⟩
end Go.Proofs.YtbngnmhbnhpbeaaDoor
