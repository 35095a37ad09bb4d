/- Texts of this claim, one behind the other. -/
import Derived.Deep.OwnRows
import Derived.Test.YtlocgfekgbdlmaaDoorMa
import Derived.Test.YtlocgfekgbdlmaaDoorMb
import Derived.Test.YtlocgfekgbdlmaaDoorMc
import Derived.Test.YtlocgfekgbdlmaaDoorMd
/- LAYER 7: package seal's turn: a row of bytes is turned in place. -/
namespace Go.Proofs.YtlocgfekgbdlmaaDoor
open Go Go.RowKit

/-- Block g is a row that holds just xs, whatever of it a string shares. -/
def Rowf (w : World) (g : Nat) (t : TypeId) (fr : Nat × Nat) (xs : List Value) : Prop := w.heap[g]? = some (.cells xs.toArray t fr)
theorem Rowf.lt {w : World} {g t : Nat} {fr : Nat × Nat} {xs : List Value} (h : Rowf w g t fr xs) : g < w.heap.size := by
  unfold Rowf at h
  exact (Array.getElem?_eq_some_iff.1 h).1
theorem Rowf.cell {w : World} {g t : Nat} {fr : Nat × Nat} {xs : List Value} (h : Rowf w g t fr xs) (i : Nat) : w.cell? ⟨g, i, none⟩ = xs[i]? := by
  rw [cell_of_row w g i _ t fr h]; simp
theorem Rowf.free {w : World} {g t : Nat} {fr : Nat × Nat} {xs : List Value} (h : Rowf w g t fr xs) (i : Nat) (hi : fr.2 ≤ fr.1 ∨ i < fr.1) : w.frozen? ⟨g, i, none⟩ = false := by
  unfold Rowf at h
  simp only [World.frozen?, h]
  rw [Bool.and_eq_false_iff]
  rcases Nat.lt_or_ge i fr.1 with h1 | h1
  · exact .inl (decide_eq_false (by omega))
  · exact .inr (decide_eq_false (by omega))
theorem Rowf.set {w : World} {g t : Nat} {fr : Nat × Nat} {xs : List Value} (h : Rowf w g t fr xs) (i : Nat) (v : Value) : Rowf (w.setCell ⟨g, i, none⟩ v) g t fr (xs.set i v) := by
  unfold Rowf at h ⊢
  rw [show (xs.set i v).toArray = xs.toArray.setIfInBounds i v by simp]
  simp [World.setCell, Array.getElem?_modify, h]
theorem Rowf.drew {w : World} {g t : Nat} {fr : Nat × Nat} {xs : List Value} (h : Rowf w g t fr xs) : Rowf w.drew g t fr xs := h
theorem Rowf.later {w w' : World} {g t : Nat} {fr : Nat × Nat} {xs : List Value} {B : Nat} (h : Rowf w g t fr xs) (hb : Below B w w') (hg : g < B) : Rowf w' g t fr xs := by
  unfold Rowf at h ⊢
  rw [hb.block g hg]; exact h
theorem Rowf.grown {w w' : World} {g k t : Nat} {fr : Nat × Nat} {xs : List Value} (h : Rowf w g t fr xs) (hg : w.grownBy w' (some k)) (hne : g ≠ k) : Rowf w' g t fr xs := by
  have hl := h.lt
  unfold Rowf at h ⊢
  rw [hg.block g hl (fun e => hne (Option.some.inj e))]; exact h
theorem Rd.rowf {w : World} {g t : Nat} {fr : Nat × Nat} {xs ys : List Value} (h : Rowf w g t fr (xs ++ ys)) : Rd w (some ⟨g, 0, none⟩) xs :=
  .inr ⟨g, 0, rfl, h.lt, fun i hi => by rw [Nat.zero_add, h.cell, List.getElem?_append_left hi]⟩
theorem turn_succ (a b : List UInt8) (k : Nat) (ha : k < a.length) (hb : k < b.length) : (xorWith (a.take k) (b.take k) ++ a.drop k).set k (a.getD k 0 ^^^ b.getD k 0) = xorWith (a.take (k + 1)) (b.take (k + 1)) ++ a.drop (k + 1) := by
  have hl : (xorWith (a.take k) (b.take k)).length = k := by rw [length_xorWith _ _ (by rw [List.length_take, List.length_take]; omega), List.length_take]; omega
  rw [xorWith_succ a b k ha hb, List.set_append_right _ _ (by omega), hl, Nat.sub_self, List.drop_eq_getElem_cons ha, List.set_cons_zero, List.append_assoc]
  rfl
theorem turn_at (a b : List UInt8) (k : Nat) (ha : k < a.length) (hb : k < b.length) : (xorWith (a.take k) (b.take k) ++ a.drop k).getD k 0 = a.getD k 0 := by
  have hl : (xorWith (a.take k) (b.take k)).length = k := by rw [length_xorWith _ _ (by rw [List.length_take, List.length_take]; omega), List.length_take]; omega
  rw [List.getD_eq_getElem?_getD, List.getElem?_append_right (by omega), hl, Nat.sub_self, List.getElem?_drop, Nat.add_zero, List.getD_eq_getElem?_getD]
theorem turn_len (a b : List UInt8) (k : Nat) (ha : k ≤ a.length) (hb : k ≤ b.length) : (xorWith (a.take k) (b.take k) ++ a.drop k).length = a.length := by
  rw [List.length_append, length_xorWith _ _ (by rw [List.length_take, List.length_take]; omega), List.length_take, List.length_drop]; omega
/-- What turns a block made since, turns none of those ahead. -/
theorem grown_past {a b c : World} {row : Option Nat} {t : Nat} (h : a.grownBy b row) (k : b.grownBy c (some t)) (ht : a.heap.size ≤ t) : a.grownBy c row :=
  ⟨k.os.trans h.os, k.tape.trans h.tape, k.output.trans h.output, Nat.le_trans h.size k.size, fun i hi hne => (k.block i (Nat.lt_of_lt_of_le hi h.size) (fun e => by cases e; omega)).trans (h.block i hi hne)⟩
set_option maxRecDepth 20000 in
set_option maxHeartbeats 2000000 in
theorem dturn_any (key nonce : List UInt8) (hk : key.length = 32) (hn : nonce.length = 32) (l : List UInt8) (hm : l.length < 9223372036854775808) (ys : List Value) (g n c : Nat) (fr : Nat × Nat) (hfr : fr.2 ≤ fr.1 ∨ l.length ≤ fr.1) (hnl : n = l.length) (w0 w : World) (hT0 : Tabs w0) (hb0 : Below w0.heap.size w0 w) (hg0 : w0.heap.size ≤ g) (hrow : Rowf w g 5 fr (byts l ++ ys)) :
    Calls Tryd.prog 18 #[.agg (byts key).toArray, .agg (byts nonce).toArray, .slice (some ⟨g, 0, none⟩) n c] w fun e w' => e = .returned (.tuple #[]) ∧ w.grownBy w' (some g) ∧ Rowf w' g 5 fr (byts (turnL key nonce l) ++ ys) := by
  have hglt := hrow.lt
  obtain ⟨K, hK⟩ : ∃ K, K = byts key := ⟨_, rfl⟩
  have hKl : K.length = 32 := by rw [hK, length_byts]; exact hk
  have hszL := Lib.hid (show (Tryd.prog.info? 23).map (·.size) = some K.length by rw [size_tag, hKl])
  obtain ⟨M, hM⟩ : ∃ M, M = byts nonce := ⟨_, rfl⟩
  have HM := Lib.hid hM
  obtain ⟨X, hX⟩ : ∃ X, X = streamL key nonce l.length := ⟨_, rfl⟩
  have HXl := Lib.hid (show X.length = l.length by rw [hX]; exact length_streamL _ _ _)
  have HX := Lib.hid hX
  have hnumA := Lib.hid (show ∀ q w1, Calls Tryd.prog 24 #[.int .u64 ((q : Nat) : Int)] w1 (GaveBytes (eightL q) w1) from fun q w1 => number_any q w1)
  have hkeyA := Lib.hid (show ∀ q w1 B d, Tabs w1 → Sl w1 B d (strsV [nonce, eightL q]) → Calls Tryd.prog 20 #[.agg K.toArray, .string (bstr streamU), .slice B 2 d] w1 fun e w' => e = .returned (.agg (byts (blockL key nonce q)).toArray) ∧ Below w1.heap.size w1 w' by
    rw [hK]
    exact fun q w1 B d hT h => dkey_any key hk streamU B 2 d [nonce, eightL q] w1 hT h rfl (by show (6 + 1) + ((nonce.length + 1) + (((eightL q).length + 1) + 0)) ≤ _; rw [length_eightL, hn]; decide))
  have HN := Lib.hid hn
  have HNL := Lib.hid hnl
  rw [← hK, ← hM]
  clear hK hKl hM hk hn hX hnl
  go_enter Tryd.func18, Tryd.ntmps18
  go_wp2_with fail
  generalize hw3 : World.alloc (World.alloc (World.alloc w _) _) _ = w3
  obtain ⟨r0, r1, rT, hb3, hs3⟩ := rows3 (A := K) (B := M) (C := List.replicate 32 (.int .u8 0)) hw3
  have rg := hrow.later hb3 hglt
  rw [zero_cells] at rT
  clear hw3 hs3 hrow
  go_wp2_with fail
  go_loopw [10] (fun i wr => ∃ k : Nat, k ≤ l.length ∧ i = .int .i64 k ∧ Rowf wr g 5 fr (byts (xorWith (l.take k) (X.take k) ++ l.drop k) ++ ys) ∧ Row wr w.heap.size 23 K ∧ Row wr (w.heap.size + 1) 23 M ∧ (∃ T : List UInt8, T.length = 32 ∧ Row wr (w.heap.size + 1 + 1) 23 (byts T) ∧ (k % 32 ≠ 0 → T = blockL key nonce (k / 32))) ∧ w.grownBy wr (some g)) (fun i _ => l.length - (intOf i).toNat)
  case atStart => exact ⟨0, by omega, rfl, rg, r0, r1, ⟨zeroT, rfl, rT, fun h => absurd rfl h⟩, grown_of_below hb3 _⟩
  case round =>
    clear r0 r1 rT hb3 rg
    obtain ⟨k, hk, rfl, rg, r0, r1, ⟨T, hTl, rT, hT⟩, hg⟩ := hrel
    by_cases hlt : k < l.length
    · have hlt' : k < n := by rw [HNL.out]; exact hlt
      obtain ⟨r, hrk⟩ : ∃ r, r = k % 32 := ⟨_, rfl⟩
      have hr : r < 32 := by omega
      have hrem : (k : Int) % (32 : Int) = (r : Int) := by rw [hrk]; omega
      have hk32 := Lib.hid hrk
      have hT := fun h : r ≠ 0 => hT (by rw [← hrk]; exact h)
      have hgne : g ≠ w.heap.size + 1 + 1 := by omega
      obtain ⟨P, hP⟩ : ∃ P, P = xorWith (l.take k) (X.take k) ++ l.drop k := ⟨_, rfl⟩
      have HPl := Lib.hid (show P.length = l.length by rw [hP]; exact turn_len l X k (by omega) (by rw [HXl.out]; omega))
      have HPk := Lib.hid (show P.getD k 0 = l.getD k 0 by rw [hP]; exact turn_at l X k hlt (by rw [HXl.out]; omega))
      have HP := Lib.hid hP
      have hTr : Tabs wr := hT0.later (hb0.grown hg hb0.size (fun k h => by cases h; exact hg0)) (Nat.le_refl _)
      rw [← hP] at rg
      clear hrk hP
      by_cases h0 : r = 0
      · have HR := Lib.hid hrem
        have hrem0 : (k : Int) % (32 : Int) = 0 := by rw [hrem, h0]; rfl
        clear hrem h0 hT
        obtain ⟨q, hq⟩ : ∃ q, q = k / 32 := ⟨_, rfl⟩
        have hquo : (k : Int) / (32 : Int) = (q : Int) := by rw [hq]; omega
        have hqw : IntKind.i64.wrap (q : Int) = (q : Int) := by rw [IntKind.wrap_i64]; omega
        have hwr : IntKind.u64.wrap (q : Int) = (q : Int) := by rw [IntKind.wrap_u64]; omega
        obtain ⟨T', hT'⟩ : ∃ T', T' = blockL key nonce q := ⟨_, rfl⟩
        obtain ⟨V, hV⟩ : ∃ V, V = byts T' := ⟨_, rfl⟩
        have hTl' : T'.length = 32 := by rw [hT']; exact length_blockL _ _ _
        have hVl : V.length = 32 := by rw [hV, length_byts]; exact hTl'
        obtain ⟨E, hE⟩ : ∃ E, E = eightL q := ⟨_, rfl⟩
        have hnum := Lib.hid (show ∀ w1, Calls Tryd.prog 24 #[.int .u64 (q : Int)] w1 (GaveBytes E w1) by rw [hE]; exact hnumA.out q)
        have hkey := Lib.hid (show ∀ w1 B d, Tabs w1 → Sl w1 B d (strsV [nonce, E]) → Calls Tryd.prog 20 #[.agg K.toArray, .string (bstr streamU), .slice B 2 d] w1 fun e w' => e = .returned (.agg V.toArray) ∧ Below w1.heap.size w1 w' by
          rw [hV, hT', hE]; exact hkeyA.out q)
        have hone := Lib.hid (show ∀ v ∈ V, v.oneCell' = true by rw [hV]; exact byts_one _)
        have hszl := Lib.hid (show (Tryd.prog.info? 23).map (·.size) = some V.length by rw [size_tag, hVl])
        have hfit := Lib.hid (show 0 + V.length ≤ (byts T).length by rw [hVl, length_byts, hTl]; decide)
        have HVr := Lib.hid (show splice (byts T) 0 V = V by
          unfold splice
          rw [List.take_zero, List.nil_append, Nat.zero_add, hVl, List.drop_of_length_le (by rw [length_byts, hTl]; exact Nat.le_refl _), List.append_nil])
        have HV := Lib.hid hV
        have HT' := Lib.hid (show T' = blockL key nonce (k / 32) by rw [hT', hq])
        have HK1 := Lib.hid (show (k + 1) % 32 ≠ 0 → T' = blockL key nonce ((k + 1) / 32) from fun _ => by rw [hT', hq, show (k + 1) / 32 = k / 32 by have := hk32.out; have := HR.out; omega])
        have ne0 : w.heap.size ≠ w.heap.size + 1 + 1 := by omega
        have hcv3 := conv_grown (g := w.heap.size + 1 + 1) (w := wr) (A := some ⟨w.heap.size + 1, 0, none⟩) (c := 32) (l := nonce) ⟨Rd.row (ys := []) (by rw [List.append_nil, ← HM.out]; exact r1), by rw [length_byts, HN.out]; exact Nat.le_refl _, fun h => by cases h⟩ 32 HN.out.symm (fun _ a ha => by cases ha; show w.heap.size + 1 ≠ _; omega)
        clear hV hVl hT' hE hr hq
        go_wp2_with fail
        refine wp_region_noPanic ?_
        refine wp_region_held_drew (S := fun w' => World.grownBy wr w' (some (w.heap.size + 1 + 1))) (by kernel_rfl) (grown_of_below (Below.refl _ _).drew _) (fun hHeld => ?_)
        have hAll := hHeld
        refine rtake 0 _ (some 16) _ rfl rfl (by kernel_rfl) (by kernel_rfl) (by kernel_rfl) (fun _ _ _ h => h) (by rfl) hHeld (by intro w hS; exact run_load_op 23 (.tmp 3) rfl _ 0 rfl K _ (row_range (r0.grown hS ne0)) Tryd.underlying23 rfl hszL.out) ?_
        try (first | (rw [put_some]; dsimp only [List.set]) | rw [put_none])
        refine rtake 1 _ (some 17) _ rfl rfl (by kernel_rfl) (by kernel_rfl) (by kernel_rfl) (fun _ _ _ h => h) (by rfl) hHeld (by intro w hS; go_simp; try with_reducible rfl) ?_
        try (first | (rw [put_some]; dsimp only [List.set]) | rw [put_none])
        refine rtake 2 _ (some 18) _ rfl rfl (by kernel_rfl) (by kernel_rfl) (by kernel_rfl) (fun _ _ _ h => h) (by rfl) hHeld (by intro w hS; go_simp; try with_reducible rfl) ?_
        try (first | (rw [put_some]; dsimp only [List.set]) | rw [put_none])
        refine rtake 3 _ (some 19) _ rfl rfl (by kernel_rfl) (by kernel_rfl) (by kernel_rfl) (fun _ _ _ h => h) (by rfl) hHeld (by intro w hS; go_simp; try with_reducible rfl) ?_
        try (first | (rw [put_some]; dsimp only [List.set]) | rw [put_none])
        refine rtake 4 _ (some 20) _ rfl rfl (by kernel_rfl) (by kernel_rfl) (by kernel_rfl) (fun _ _ _ h => h) (by rfl) hHeld (by intro w hS; go_simp; try with_reducible rfl) ?_
        try (first | (rw [put_some]; dsimp only [List.set]) | rw [put_none])
        refine rtake 5 _ (some 21) _ rfl rfl (by kernel_rfl) (by kernel_rfl) (by kernel_rfl) (fun _ _ _ h => h) (by rfl) hHeld (by intro w hS; go_simp; try with_reducible rfl) ?_
        try (first | (rw [put_some]; dsimp only [List.set]) | rw [put_none])
        refine wpAnyH_ready (rs := [6]) (by kernel_rfl) (by simp) (AllReadyH.cons (o := _) rfl (fun K hK => ?_) AllReadyH.nil)
        go_simp
        refine (hnum.out _).mono ?_; rintro e w4 ⟨v4, rfl, hown4, hb4⟩; have hb34 := ((Below.refl wr.heap.size wr).drew).trans (hb4.mono (Nat.le_refl _)); obtain ⟨A4, c4, rfl, _, hsl4⟩ := Sl.of_own hown4; have hcv4 := conv_grown (g := w.heap.size + 1 + 1) hsl4 _ rfl (fun _ a ha => own_apart hown4 rT.lt a ha); clear hown4
        try go_wp2_with fail
        refine hK.out _ _ (grown_trans hHeld (grown_of_below hb4 _)) (fun _ => ?_)
        clear hK K
        try (first | (rw [put_some]; dsimp only [List.set]) | rw [put_none])
        have hAll := grown_trans hAll (grown_of_below hb4 _)
        refine wpAnyH_narrow (S' := fun w' => World.grownBy w4 w' (some (w.heap.size + 1 + 1))) (fun _ h => grown_trans (grown_trans hHeld (grown_of_below hb4 _)) h) _ _ _ _ ?_
        clear hHeld
        have hHeld : World.grownBy w4 w4 (some (w.heap.size + 1 + 1)) := grown_refl _ _
        refine rtake 7 _ (some 23) _ rfl rfl (by kernel_rfl) (by kernel_rfl) (by kernel_rfl) (fun _ _ _ h => h) (by rfl) hHeld (by intro w hS; go_simp; try with_reducible rfl) ?_
        try (first | (rw [put_some]; dsimp only [List.set]) | rw [put_none])
        refine wpAnyH_ready (rs := [8]) (by kernel_rfl) (by simp) (AllReadyH.cons (o := _) rfl (fun K hK => ?_) AllReadyH.nil)
        refine step_alloc (some 24) rfl (by rfl) (.slice (some ⟨w4.heap.size, 0, none⟩) 2 2) (.cells #[.string (bstr nonce), .string (bstr E)] 9) (by go_simp) ?_; intro w5 hw5 hb5; have hb35 := below_step hb34 hb5; have hss : Sl w5 (some ⟨w4.heap.size, 0, none⟩) 2 (strsV [nonce, E]) := (by rw [hw5]; exact ⟨Rd.row (ys := []) (by rw [List.append_nil]; exact Row.new w4 9 (strsV [nonce, E])), by rw [length_strsV]; exact Nat.le_refl _, fun h => by cases h⟩); clear hw5
        refine hK.out _ _ (grown_trans hHeld (grown_of_below hb5 _)) (fun _ => ?_)
        clear hK K
        try (first | (rw [put_some]; dsimp only [List.set]) | rw [put_none])
        have hAll := grown_trans hAll (grown_of_below hb5 _)
        refine wpAnyH_narrow (S' := fun w' => World.grownBy w5 w' (some (w.heap.size + 1 + 1))) (fun _ h => grown_trans (grown_trans hHeld (grown_of_below hb5 _)) h) _ _ _ _ ?_
        clear hHeld
        have hHeld : World.grownBy w5 w5 (some (w.heap.size + 1 + 1)) := grown_refl _ _
        refine wpAnyH_ready (rs := [9]) (by kernel_rfl) (by simp) (AllReadyH.cons (o := _) rfl (fun K hK => ?_) AllReadyH.nil)
        go_simp
        refine (hkey.out _ _ _ (hTr.later hb35 (Nat.le_refl _)) hss).mono ?_; rintro e w6 ⟨rfl, hb6⟩; have hb36 := below_step hb35 hb6
        try go_wp2_with fail
        refine hK.out _ _ (grown_trans hHeld (grown_of_below hb6 _)) (fun _ => ?_)
        clear hK K
        try (first | (rw [put_some]; dsimp only [List.set]) | rw [put_none])
        have hAll := grown_trans hAll (grown_of_below hb6 _)
        refine wpAnyH_narrow (S' := fun w' => World.grownBy w6 w' (some (w.heap.size + 1 + 1))) (fun _ h => grown_trans (grown_trans hHeld (grown_of_below hb6 _)) h) _ _ _ _ ?_
        clear hHeld
        have hHeld : World.grownBy w6 w6 (some (w.heap.size + 1 + 1)) := grown_refl _ _
        refine wpAnyH_ready (rs := [10]) (by kernel_rfl) (by simp) (AllReadyH.cons (o := _) rfl (fun K hK => ?_) AllReadyH.nil)
        refine step_store_row none rfl (by rfl) 23 (.tmp 6) (.tmp 25) rfl (w.heap.size + 1 + 1) 0 23 _ V rfl rfl (rT.later hb36 rT.lt) hfit.out hszl.out hone.out ?_; intro w9 r9 hg9
        refine hK.out _ _ (grown_trans hHeld hg9) (fun _ => ?_)
        clear hK K
        try (first | (rw [put_some]; dsimp only [List.set]) | rw [put_none])
        have hAll := grown_trans hAll hg9
        refine wpAnyH_narrow (S' := fun w' => World.grownBy w9 w' (some (w.heap.size + 1 + 1))) (fun _ h => grown_trans (grown_trans hHeld hg9) h) _ _ _ _ ?_
        clear hHeld
        have hHeld : World.grownBy w9 w9 (some (w.heap.size + 1 + 1)) := grown_refl _ _
        refine wpAnyH_done (by kernel_rfl) ?_ _
        refine NoPanic.normal ?_
        have r9 : Row w9 (w.heap.size + 1 + 1) 23 V := by rw [HVr.out] at r9; exact r9
        rw [HV.out] at r9
        have hb3 := hb36
        have r0' := (r0.later hb36 r0.lt).grown hg9 ne0
        have r1' := (r1.later hb36 r1.lt).grown hg9 (by omega)
        have rg' := (rg.later hb36 rg.lt).grown hg9 hgne
        have hg' : w.grownBy w9 (some g) := grown_past hg hAll (by omega)
        have hr : r < 32 := by have := hk32.out; omega
        have hTl := hTl'
        have hT := HT'.out
        have hrem := HR.out
        clear hb36 hb35 hb34 hb4 hb5 hb6 hcv4 hcv3 hss hsl4 hg9 hAll hHeld rT rg r0 r1 hTr hnum hkey hone hszl hfit HVr HV HT' HR hrem0 hquo hqw hwr
        generalize T' = T at *
        have hcb : w9.cell? ⟨g, k, none⟩ = some (.int .u8 ((l.getD k 0).toNat : Int)) := by
          rw [rg'.cell, List.getElem?_append_left (by rw [length_byts, HPl.out]; exact hlt), get_byts _ _ (by rw [HPl.out]; exact hlt), HPk.out]
        have hfb : w9.frozen? ⟨g, k, none⟩ = false := rg'.free k (by omega)
        have hct : w9.cell? ⟨w.heap.size + 1 + 1, r, none⟩ = some (.int .u8 ((T.getD r 0).toNat : Int)) := by rw [r9.cell, get_byts _ _ (by rw [hTl]; exact hr)]
        have HT := Lib.hid (show T.getD r 0 = X.getD k 0 by rw [hT, HX.out, getD_streamL _ _ _ _ hlt, ← hk32.out])
        have HS := Lib.hid (show (P.set k (l.getD k 0 ^^^ T.getD r 0)) = xorWith (l.take (k + 1)) (X.take (k + 1)) ++ l.drop (k + 1) by rw [HT.out, HP.out]; exact turn_succ l X k hlt (by rw [HXl.out]; exact hlt))
        generalize T.getD r 0 = y at *
        generalize l.getD k 0 = x at *
        have hx := byte_xor x y
        have hrr : (r : Int) < 32 := by omega
        have htm : (k : Int).tmod 32 = (r : Int) := by rw [Int.tmod_eq_emod_of_nonneg (by omega)]; exact hrem
        have hixg := index_own (some ⟨g, 0, none⟩) g n c k rfl hlt'
        clear hT
        go_wp2_with fail
        refine wp_region_noPanic ?_
        refine wp_region_held_drew (S := fun w' => w'.cell? ⟨w.heap.size + 1 + 1, r, none⟩ = some (.int .u8 (y.toNat : Int))) (by kernel_rfl) (hct) (fun hHeld => ?_)
        refine rtake 0 _ (some 26) _ rfl rfl (by kernel_rfl) (by kernel_rfl) (by kernel_rfl) (fun _ _ _ h => h) (by rfl) hHeld (by intro w hS; go_simp; try with_reducible rfl) ?_
        try (first | (rw [put_some]; dsimp only [List.set]) | rw [put_none])
        refine rtake 1 _ (some 27) _ rfl rfl (by kernel_rfl) (by kernel_rfl) (by kernel_rfl) (fun _ _ _ h => h) (by rfl) hHeld (by intro w hS; go_simp; try with_reducible rfl) ?_
        try (first | (rw [put_some]; dsimp only [List.set]) | rw [put_none])
        refine rtake 2 _ (some 28) _ rfl rfl (by kernel_rfl) (by kernel_rfl) (by kernel_rfl) (fun _ _ _ h => h) (by rfl) hHeld (by intro w hS; go_simp; try with_reducible rfl) ?_
        try (first | (rw [put_some]; dsimp only [List.set]) | rw [put_none])
        refine rtake 4 _ (some 30) _ rfl rfl (by kernel_rfl) (by kernel_rfl) (by kernel_rfl) (fun _ _ _ h => h) (by rfl) hHeld (by intro w hS; go_simp; try with_reducible rfl) ?_
        try (first | (rw [put_some]; dsimp only [List.set]) | rw [put_none])
        refine rtake 5 _ (some 31) _ rfl rfl (by kernel_rfl) (by kernel_rfl) (by kernel_rfl) (fun _ _ _ h => h) (by rfl) hHeld (by intro w hS; go_simp; try with_reducible rfl) ?_
        try (first | (rw [put_some]; dsimp only [List.set]) | rw [put_none])
        refine rtake 6 _ (some 32) _ rfl rfl (by kernel_rfl) (by kernel_rfl) (by kernel_rfl) (fun _ _ _ h => h) (by rfl) hHeld (by intro w hS; go_simp; try with_reducible rfl) ?_
        try (first | (rw [put_some]; dsimp only [List.set]) | rw [put_none])
        refine rtake 7 _ (some 33) _ rfl rfl (by kernel_rfl) (by kernel_rfl) (by kernel_rfl) (fun _ _ _ h => h) (by rfl) hHeld (by intro w hS; go_simp; try with_reducible rfl) ?_
        try (first | (rw [put_some]; dsimp only [List.set]) | rw [put_none])
        refine wpAnyH_ready (rs := [3]) (by kernel_rfl) (by simp) (AllReadyH.cons (o := _) rfl (fun K hK => ?_) AllReadyH.nil)
        go_simp
        refine hK.out _ _ (hHeld) (fun hHeld => ?_)
        clear hK K
        try (first | (rw [put_some]; dsimp only [List.set]) | rw [put_none])
        refine rtake 8 _ (some 34) _ rfl rfl (by kernel_rfl) (by kernel_rfl) (by kernel_rfl) (fun _ _ _ h => h) (by rfl) hHeld (by intro w hS; go_simp; try with_reducible rfl) ?_
        try (first | (rw [put_some]; dsimp only [List.set]) | rw [put_none])
        refine rtake 9 _ (some 35) _ rfl rfl (by kernel_rfl) (by kernel_rfl) (by kernel_rfl) (fun _ _ _ h => h) (by rfl) hHeld (by intro w hS; go_simp; try with_reducible rfl) ?_
        try (first | (rw [put_some]; dsimp only [List.set]) | rw [put_none])
        refine wpAnyH_ready (rs := [10]) (by kernel_rfl) (by simp) (AllReadyH.cons (o := _) rfl (fun K hK => ?_) AllReadyH.nil)
        go_simp
        refine hK.out _ _ (by exact (World.cell?_setCell_far _ _ _ _ hgne).trans hct) (fun _ => ?_)
        clear hK K
        try (first | (rw [put_some]; dsimp only [List.set]) | rw [put_none])
        refine wpAnyH_done (by kernel_rfl) ?_ _
        refine NoPanic.normal ?_
        have rN := (rg'.set k (.int .u8 ((x ^^^ y).toNat : Int))).drew
        rw [List.set_append_left _ _ (by rw [length_byts, HPl.out]; exact hlt), byts_set, HS.out, UInt8.toNat_xor] at rN
        have r0N := (r0'.far ⟨g, k, none⟩ (.int .u8 ((x.toNat ^^^ y.toNat : Nat) : Int)) (by show w.heap.size ≠ g; omega)).drew
        have r1N := (r1'.far ⟨g, k, none⟩ (.int .u8 ((x.toNat ^^^ y.toNat : Nat) : Int)) (by show w.heap.size + 1 ≠ g; omega)).drew
        have rTN := (r9.far ⟨g, k, none⟩ (.int .u8 ((x.toNat ^^^ y.toNat : Nat) : Int)) (by show w.heap.size + 1 + 1 ≠ g; omega)).drew
        have hgN := grown_trans hg' (grown_trans (grown_setCell w9 g k (.int .u8 ((x.toNat ^^^ y.toNat : Nat) : Int))) (grown_of_below (Below.refl _ _).drew _))
        generalize (w9.setCell ⟨g, k, none⟩ (.int .u8 ((x.toNat ^^^ y.toNat : Nat) : Int))).drew = wN at *
        clear hcb hfb hct hx hixg rg' r9 r0' r1' HS HT
        go_wp2_with fail
        go_roundw
        case rel => exact ⟨k + 1, by omega, by go_num, rN, r0N, r1N, ⟨T, hTl, rTN, fun h => HK1.out h⟩, hgN⟩
        case measure => simp [intOf]; omega
      · have hr0 : ¬ (r : Int) = 0 := by omega
        have hT := hT h0
        have HK1 := Lib.hid (show (k + 1) % 32 ≠ 0 → T = blockL key nonce ((k + 1) / 32) from fun h => by rw [hT, show (k + 1) / 32 = k / 32 by have := hk32.out; omega])
        have hcb : wr.cell? ⟨g, k, none⟩ = some (.int .u8 ((l.getD k 0).toNat : Int)) := by
          rw [rg.cell, List.getElem?_append_left (by rw [length_byts, HPl.out]; exact hlt), get_byts _ _ (by rw [HPl.out]; exact hlt), HPk.out]
        have hfb : wr.frozen? ⟨g, k, none⟩ = false := rg.free k (by omega)
        have hct : wr.cell? ⟨w.heap.size + 1 + 1, r, none⟩ = some (.int .u8 ((T.getD r 0).toNat : Int)) := by rw [rT.cell, get_byts _ _ (by rw [hTl]; exact hr)]
        have HT := Lib.hid (show T.getD r 0 = X.getD k 0 by rw [hT, HX.out, getD_streamL _ _ _ _ hlt, ← hk32.out])
        have HS := Lib.hid (show (P.set k (l.getD k 0 ^^^ T.getD r 0)) = xorWith (l.take (k + 1)) (X.take (k + 1)) ++ l.drop (k + 1) by rw [HT.out, HP.out]; exact turn_succ l X k hlt (by rw [HXl.out]; exact hlt))
        generalize T.getD r 0 = y at *
        generalize l.getD k 0 = x at *
        have hx := byte_xor x y
        have hrr : (r : Int) < 32 := by omega
        have htm : (k : Int).tmod 32 = (r : Int) := by rw [Int.tmod_eq_emod_of_nonneg (by omega)]; exact hrem
        have hixg := index_own (some ⟨g, 0, none⟩) g n c k rfl hlt'
        clear hT
        go_wp2_with fail
        refine wp_region_noPanic ?_
        refine wp_region_held_drew (S := fun w' => w'.cell? ⟨w.heap.size + 1 + 1, r, none⟩ = some (.int .u8 (y.toNat : Int))) (by kernel_rfl) (hct) (fun hHeld => ?_)
        refine rtake 0 _ (some 26) _ rfl rfl (by kernel_rfl) (by kernel_rfl) (by kernel_rfl) (fun _ _ _ h => h) (by rfl) hHeld (by intro w hS; go_simp; try with_reducible rfl) ?_
        try (first | (rw [put_some]; dsimp only [List.set]) | rw [put_none])
        refine rtake 1 _ (some 27) _ rfl rfl (by kernel_rfl) (by kernel_rfl) (by kernel_rfl) (fun _ _ _ h => h) (by rfl) hHeld (by intro w hS; go_simp; try with_reducible rfl) ?_
        try (first | (rw [put_some]; dsimp only [List.set]) | rw [put_none])
        refine rtake 2 _ (some 28) _ rfl rfl (by kernel_rfl) (by kernel_rfl) (by kernel_rfl) (fun _ _ _ h => h) (by rfl) hHeld (by intro w hS; go_simp; try with_reducible rfl) ?_
        try (first | (rw [put_some]; dsimp only [List.set]) | rw [put_none])
        refine rtake 4 _ (some 30) _ rfl rfl (by kernel_rfl) (by kernel_rfl) (by kernel_rfl) (fun _ _ _ h => h) (by rfl) hHeld (by intro w hS; go_simp; try with_reducible rfl) ?_
        try (first | (rw [put_some]; dsimp only [List.set]) | rw [put_none])
        refine rtake 5 _ (some 31) _ rfl rfl (by kernel_rfl) (by kernel_rfl) (by kernel_rfl) (fun _ _ _ h => h) (by rfl) hHeld (by intro w hS; go_simp; try with_reducible rfl) ?_
        try (first | (rw [put_some]; dsimp only [List.set]) | rw [put_none])
        refine rtake 6 _ (some 32) _ rfl rfl (by kernel_rfl) (by kernel_rfl) (by kernel_rfl) (fun _ _ _ h => h) (by rfl) hHeld (by intro w hS; go_simp; try with_reducible rfl) ?_
        try (first | (rw [put_some]; dsimp only [List.set]) | rw [put_none])
        refine rtake 7 _ (some 33) _ rfl rfl (by kernel_rfl) (by kernel_rfl) (by kernel_rfl) (fun _ _ _ h => h) (by rfl) hHeld (by intro w hS; go_simp; try with_reducible rfl) ?_
        try (first | (rw [put_some]; dsimp only [List.set]) | rw [put_none])
        refine wpAnyH_ready (rs := [3]) (by kernel_rfl) (by simp) (AllReadyH.cons (o := _) rfl (fun K hK => ?_) AllReadyH.nil)
        go_simp
        refine hK.out _ _ (hHeld) (fun hHeld => ?_)
        clear hK K
        try (first | (rw [put_some]; dsimp only [List.set]) | rw [put_none])
        refine rtake 8 _ (some 34) _ rfl rfl (by kernel_rfl) (by kernel_rfl) (by kernel_rfl) (fun _ _ _ h => h) (by rfl) hHeld (by intro w hS; go_simp; try with_reducible rfl) ?_
        try (first | (rw [put_some]; dsimp only [List.set]) | rw [put_none])
        refine rtake 9 _ (some 35) _ rfl rfl (by kernel_rfl) (by kernel_rfl) (by kernel_rfl) (fun _ _ _ h => h) (by rfl) hHeld (by intro w hS; go_simp; try with_reducible rfl) ?_
        try (first | (rw [put_some]; dsimp only [List.set]) | rw [put_none])
        refine wpAnyH_ready (rs := [10]) (by kernel_rfl) (by simp) (AllReadyH.cons (o := _) rfl (fun K hK => ?_) AllReadyH.nil)
        go_simp
        refine hK.out _ _ (by exact (World.cell?_setCell_far _ _ _ _ hgne).trans hct) (fun _ => ?_)
        clear hK K
        try (first | (rw [put_some]; dsimp only [List.set]) | rw [put_none])
        refine wpAnyH_done (by kernel_rfl) ?_ _
        refine NoPanic.normal ?_
        have rN := (rg.set k (.int .u8 ((x ^^^ y).toNat : Int))).drew
        rw [List.set_append_left _ _ (by rw [length_byts, HPl.out]; exact hlt), byts_set, HS.out, UInt8.toNat_xor] at rN
        have r0N := (r0.far ⟨g, k, none⟩ (.int .u8 ((x.toNat ^^^ y.toNat : Nat) : Int)) (by show w.heap.size ≠ g; omega)).drew
        have r1N := (r1.far ⟨g, k, none⟩ (.int .u8 ((x.toNat ^^^ y.toNat : Nat) : Int)) (by show w.heap.size + 1 ≠ g; omega)).drew
        have rTN := (rT.far ⟨g, k, none⟩ (.int .u8 ((x.toNat ^^^ y.toNat : Nat) : Int)) (by show w.heap.size + 1 + 1 ≠ g; omega)).drew
        have hgN := grown_trans hg (grown_trans (grown_setCell wr g k (.int .u8 ((x.toNat ^^^ y.toNat : Nat) : Int))) (grown_of_below (Below.refl _ _).drew _))
        generalize (wr.setCell ⟨g, k, none⟩ (.int .u8 ((x.toNat ^^^ y.toNat : Nat) : Int))).drew = wN at *
        clear hcb hfb hct hx hixg rg rT r0 r1 HS HT
        go_wp2_with fail
        go_roundw
        case rel => exact ⟨k + 1, by omega, by go_num, rN, r0N, r1N, ⟨T, hTl, rTN, fun h => HK1.out h⟩, hgN⟩
        case measure => simp [intOf]; omega
    · obtain rfl : k = l.length := by omega
      rw [List.take_length, List.take_of_length_le (by rw [HXl.out]; exact Nat.le_refl _), List.drop_length, List.append_nil] at rg
      have hF : turnL key nonce l = xorWith l X := by rw [HX.out]; rfl
      have hlt' : ¬ (l.length : Int) < (n : Int) := by rw [HNL.out]; omega
      rw [← hF] at rg
      clear hF r0 r1 rT hTl hT hlt hk HXl HX
      go_wp2
      go_end0
      exact ⟨rfl, hg, rg⟩
end Go.Proofs.YtlocgfekgbdlmaaDoor

/- LAYER 7: package seal's mark, turned, Stream. -/
namespace Go.Proofs.YtlocgfekgbdlmaaDoor
open Go Go.RowKit

theorem row_make (w : World) (n : Nat) : Row (w.alloc (.cells (madeCells #[.int .u8 0] n) 5)) w.heap.size 5 (List.replicate n (.int .u8 0)) := by
  have h := made_list .u8 n
  rw [Nat.mul_one] at h
  have e : madeCells #[.int .u8 0] n = (List.replicate n (Value.int .u8 0)).toArray := by rw [← h]; rfl
  rw [e]
  exact Row.new w 5 _
/-- A string turned into bytes: the new block is one row. -/
theorem conv_string_row (w : World) (l : List UInt8) : ∃ c ys fr w', (convert 9 28 (.string (bstr l))).run Tryd.prog w = .ok (.slice (some ⟨w.heap.size, 0, none⟩) l.length c) w' ∧ Rowf w' w.heap.size 5 fr (byts l ++ ys) ∧ l.length ≤ fr.1 ∧ l.length ≤ c ∧ Below w.heap.size w w' := by
  have h := run_bytes_of_string (P := Tryd.prog) w 9 28 5 (bstr l) Tryd.underlying9 Tryd.underlying28 Tryd.underlying5
  rw [size_bstr, bytesRow_list] at h
  exact ⟨_, _, _, _, h, Go.heap_alloc_new w.drew _, by rw [List.size_toArray, List.length_append, length_byts]; omega, grownCap_ge w l.length 0 5, ((Below.refl _ w).drew).alloc (Nat.le_refl _) _⟩
theorem wpList_conv_row {w : World} {ops : Array Oper} {rest : List Oper} {o : Oper} {a : Act} {Q : Exit → Act → World → Prop} (hgd : o.guard = none) (x : Operand)
    (ho : o.op = .convert 9 28 x) (l : List UInt8) (hx : a.eval x = .string (bstr l))
    (h : ∀ c ys fr w', Rowf w' w.heap.size 5 fr (byts l ++ ys) → l.length ≤ fr.1 → l.length ≤ c → Below w.heap.size w w' → wpList Tryd.prog ops Q rest (a.put o.dst (.slice (some ⟨w.heap.size, 0, none⟩) l.length c)) w') : wpList Tryd.prog ops Q (o :: rest) a w := by
  refine wpList_plain hgd fun _ hK => ?_
  obtain ⟨c, ys, fr, w', hrun, hs, hf, hc, hb⟩ := conv_string_row w l
  unfold Oper.wp execOp
  simp only [ho, hx, hrun, Sem.run_bind, Sem.run_pure, Result.andThen_ok]
  exact hK _ _ (h _ _ _ _ hs hf hc hb)
theorem xorWith_zeros : ∀ (n : Nat) (x : List UInt8), x.length = n → xorWith (List.replicate n 0) x = x
  | 0, [], _ => rfl
  | n + 1, a :: x, h => by
    rw [List.replicate_succ]
    show (0 ^^^ a) :: xorWith (List.replicate n 0) x = a :: x
    rw [UInt8.zero_xor, xorWith_zeros n x (by simpa using h)]
  | n + 1, [], h => by simp at h
  | 0, _ :: _, h => by simp at h
set_option maxRecDepth 20000 in
set_option maxHeartbeats 1000000 in
theorem dmark_any (key nonce : List UInt8) (hk : key.length = 32) (hn : nonce.length = 32) (C : List UInt8) (hC : C.length ≤ 900000000) (w : World) (hT : Tabs w) :
    Calls Tryd.prog 12 #[.agg (byts key).toArray, .agg (byts nonce).toArray, .string (bstr C)] w fun e w' => e = .returned (.agg (byts (tagOver key nonce C)).toArray) ∧ Below w.heap.size w w' := by
  obtain ⟨K, hK⟩ : ∃ K, K = byts key := ⟨_, rfl⟩
  have hKl : K.length = 32 := by rw [hK, length_byts]; exact hk
  have hszK := Lib.hid (show (Tryd.prog.info? 23).map (·.size) = some K.length by rw [size_tag, hKl])
  obtain ⟨M, hM⟩ : ∃ M, M = byts nonce := ⟨_, rfl⟩
  have HM := Lib.hid hM
  obtain ⟨V, hV⟩ : ∃ V, V = byts (tagOver key nonce C) := ⟨_, rfl⟩
  have hVl : V.length = 32 := by rw [hV, length_byts]; exact length_tagOver _ _ _
  have hone := Lib.hid (show ∀ v ∈ V, v.oneCell' = true by rw [hV]; exact byts_one _)
  have hszl := Lib.hid (show (Tryd.prog.info? 23).map (·.size) = some V.length by rw [size_tag, hVl])
  have hsz2 := Lib.hid (show (Tryd.prog.info? 23).map (·.size) = some V.toArray.size by rw [size_tag, List.size_toArray, hVl])
  have hfit := Lib.hid (show 0 + V.length ≤ (List.replicate 32 (Value.int .u8 0)).length by rw [hVl, List.length_replicate]; decide)
  have HVr := Lib.hid (show splice (List.replicate 32 (Value.int .u8 0)) 0 V = V by
    unfold splice
    rw [List.take_zero, List.nil_append, Nat.zero_add, hVl, List.drop_of_length_le (by rw [List.length_replicate]; exact Nat.le_refl _), List.append_nil])
  have hkey := Lib.hid (show ∀ w1 B d, Tabs w1 → Sl w1 B d (strsV [nonce, C]) → Calls Tryd.prog 20 #[.agg K.toArray, .string (bstr sealU), .slice B 2 d] w1 fun e w' => e = .returned (.agg V.toArray) ∧ Below w1.heap.size w1 w' by
    rw [hK, hV]
    exact fun w1 B d hT h => dkey_any key hk sealU B 2 d [nonce, C] w1 hT h rfl (by show (4 + 1) + ((nonce.length + 1) + ((C.length + 1) + 0)) ≤ _; rw [hn]; omega))
  have HVD := Lib.hid hV
  have HN := Lib.hid hn
  rw [← hK, ← hM]
  clear hV hVl hK hKl hM hk hn hC
  go_enter Tryd.func12, Tryd.ntmps12
  go_wp2_with fail
  generalize hw3 : World.alloc (World.alloc (World.alloc w _) _) _ = w3
  obtain ⟨r0, r1, r2, hb3, hs3⟩ := rows3 (A := K) (B := M) (C := List.replicate 32 (.int .u8 0)) hw3
  have hT3 := hT.later hb3 (Nat.le_refl _)
  have ne0 : w.heap.size ≠ w.heap.size + 1 + 1 := by omega
  have hcv3 := conv_grown (g := w.heap.size + 1 + 1) (w := w3) (A := some ⟨w.heap.size + 1, 0, none⟩) (c := 32) (l := nonce) ⟨Rd.row (ys := []) (by rw [List.append_nil, ← HM.out]; exact r1), by rw [length_byts, HN.out]; exact Nat.le_refl _, fun h => by cases h⟩ 32 HN.out.symm (fun _ a ha => by cases ha; show w.heap.size + 1 ≠ _; omega)
  clear hw3 hs3 r1
  refine wp_region_noPanic ?_
  refine wp_region_held_drew (S := fun w' => World.grownBy w3 w' (some (w.heap.size + 1 + 1))) (by kernel_rfl) (grown_of_below (Below.refl _ _).drew _) (fun hHeld => ?_)
  have hAll := hHeld
  refine rtake 0 _ (some 7) _ rfl rfl (by kernel_rfl) (by kernel_rfl) (by kernel_rfl) (fun _ _ _ h => h) (by rfl) hHeld (by intro w hS; exact run_load_op 23 (.tmp 3) rfl _ 0 rfl K _ (row_range (r0.grown hS ne0)) Tryd.underlying23 rfl hszK.out) ?_
  try (first | (rw [put_some]; dsimp only [List.set]) | rw [put_none])
  refine rtake 1 _ (some 8) _ rfl rfl (by kernel_rfl) (by kernel_rfl) (by kernel_rfl) (fun _ _ _ h => h) (by rfl) hHeld (by intro w hS; go_simp; try with_reducible rfl) ?_
  try (first | (rw [put_some]; dsimp only [List.set]) | rw [put_none])
  refine rtake 2 _ (some 9) _ rfl rfl (by kernel_rfl) (by kernel_rfl) (by kernel_rfl) (fun _ _ _ h => h) (by rfl) hHeld (by intro w hS; go_simp; try with_reducible rfl) ?_
  try (first | (rw [put_some]; dsimp only [List.set]) | rw [put_none])
  refine rtake 3 _ (some 10) _ rfl rfl (by kernel_rfl) (by kernel_rfl) (by kernel_rfl) (fun _ _ _ h => h) (by rfl) hHeld (by intro w hS; go_simp; try with_reducible rfl) ?_
  try (first | (rw [put_some]; dsimp only [List.set]) | rw [put_none])
  refine wpAnyH_ready (rs := [4]) (by kernel_rfl) (by simp) (AllReadyH.cons (o := _) rfl (fun K hK => ?_) AllReadyH.nil)
  refine step_alloc (some 11) rfl (by rfl) (.slice (some ⟨w3.heap.size, 0, none⟩) 2 2) (.cells #[.string (bstr nonce), .string (bstr C)] 9) (by go_simp) ?_; intro w5 hw5 hb5; have hb35 := ((Below.refl w3.heap.size w3).drew).trans (hb5.mono (Nat.le_refl _)); have hss : Sl w5 (some ⟨w3.heap.size, 0, none⟩) 2 (strsV [nonce, C]) := (by rw [hw5]; exact ⟨Rd.row (ys := []) (by rw [List.append_nil]; exact Row.new w3.drew 9 (strsV [nonce, C])), by rw [length_strsV]; exact Nat.le_refl _, fun h => by cases h⟩); clear hw5
  refine hK.out _ _ (grown_trans hHeld (grown_of_below hb5 _)) (fun _ => ?_)
  clear hK K
  try (first | (rw [put_some]; dsimp only [List.set]) | rw [put_none])
  have hAll := grown_trans hAll (grown_of_below hb5 _)
  refine wpAnyH_narrow (S' := fun w' => World.grownBy w5 w' (some (w.heap.size + 1 + 1))) (fun _ h => grown_trans (grown_trans hHeld (grown_of_below hb5 _)) h) _ _ _ _ ?_
  clear hHeld
  have hHeld : World.grownBy w5 w5 (some (w.heap.size + 1 + 1)) := grown_refl _ _
  refine wpAnyH_ready (rs := [5]) (by kernel_rfl) (by simp) (AllReadyH.cons (o := _) rfl (fun K hK => ?_) AllReadyH.nil)
  go_simp
  refine (hkey.out _ _ _ (hT3.later hb35 (Nat.le_refl _)) hss).mono ?_; rintro e w6 ⟨rfl, hb6⟩; have hb36 := below_step hb35 hb6
  try go_wp2_with fail
  refine hK.out _ _ (grown_trans hHeld (grown_of_below hb6 _)) (fun _ => ?_)
  clear hK K
  try (first | (rw [put_some]; dsimp only [List.set]) | rw [put_none])
  have hAll := grown_trans hAll (grown_of_below hb6 _)
  refine wpAnyH_narrow (S' := fun w' => World.grownBy w6 w' (some (w.heap.size + 1 + 1))) (fun _ h => grown_trans (grown_trans hHeld (grown_of_below hb6 _)) h) _ _ _ _ ?_
  clear hHeld
  have hHeld : World.grownBy w6 w6 (some (w.heap.size + 1 + 1)) := grown_refl _ _
  refine wpAnyH_ready (rs := [6]) (by kernel_rfl) (by simp) (AllReadyH.cons (o := _) rfl (fun K hK => ?_) AllReadyH.nil)
  refine step_store_row none rfl (by rfl) 23 (.tmp 6) (.tmp 12) rfl (w.heap.size + 1 + 1) 0 23 _ V rfl rfl (r2.later hb36 r2.lt) hfit.out hszl.out hone.out ?_; intro w9 r9 hg9
  refine hK.out _ _ (grown_trans hHeld hg9) (fun _ => ?_)
  clear hK K
  try (first | (rw [put_some]; dsimp only [List.set]) | rw [put_none])
  have hAll := grown_trans hAll hg9
  refine wpAnyH_narrow (S' := fun w' => World.grownBy w9 w' (some (w.heap.size + 1 + 1))) (fun _ h => grown_trans (grown_trans hHeld hg9) h) _ _ _ _ ?_
  clear hHeld
  have hHeld : World.grownBy w9 w9 (some (w.heap.size + 1 + 1)) := grown_refl _ _
  refine wpAnyH_done (by kernel_rfl) ?_ _
  refine NoPanic.normal ?_
  have r9 : Row w9 (w.heap.size + 1 + 1) 23 V := by rw [HVr.out] at r9; exact r9
  have hb9 := hb3.grown hAll hb3.size (fun k h => by cases h; omega)
  have R9 := Lib.hid (show w9.heap[w.heap.size + 1 + 1]? = some (.cells V.toArray 23 (0, 0)) from r9)
  clear r9 hg9 r0 r2 hcv3 hss hb5 hb6 hb35 hb36 hb3 hAll hHeld
  go_wp2_with (with_reducible refine bodyPost_ret (results_cell_row rfl _ _ (w.heap.size + 1 + 1) 23 V.toArray (0, 0) (.array 32 5) rfl R9.out Tryd.underlying23 rfl hsz2.out) rfl ?_)
  exact ⟨by rw [HVD.out], hb9⟩
set_option maxRecDepth 20000 in
set_option maxHeartbeats 1000000 in
theorem dturned_any (key nonce : List UInt8) (hk : key.length = 32) (hn : nonce.length = 32) (s : List UInt8) (hm : s.length < 9223372036854775808) (w : World) (hT : Tabs w) :
    Calls Tryd.prog 14 #[.agg (byts key).toArray, .agg (byts nonce).toArray, .string (bstr s)] w fun e w' => e = .returned (.string (bstr (turnL key nonce s))) ∧ Below w.heap.size w w' := by
  obtain ⟨K, hK⟩ : ∃ K, K = byts key := ⟨_, rfl⟩
  have hKl : K.length = 32 := by rw [hK, length_byts]; exact hk
  have hszK := Lib.hid (show (Tryd.prog.info? 23).map (·.size) = some K.toArray.size by rw [size_tag, List.size_toArray, hKl])
  obtain ⟨M, hM⟩ : ∃ M, M = byts nonce := ⟨_, rfl⟩
  have hMl : M.length = 32 := by rw [hM, length_byts]; exact hn
  have hszM := Lib.hid (show (Tryd.prog.info? 23).map (·.size) = some M.toArray.size by rw [size_tag, List.size_toArray, hMl])
  obtain ⟨X, hX⟩ : ∃ X, X = turnL key nonce s := ⟨_, rfl⟩
  have HXl := Lib.hid (show s.length = X.length by rw [hX]; exact (length_turnL _ _ _).symm)
  have htu := Lib.hid (show ∀ (ys : List Value) (g c : Nat) (fr : Nat × Nat) (w1 : World), s.length ≤ fr.1 → Below w.heap.size w w1 → w.heap.size ≤ g → Rowf w1 g 5 fr (byts s ++ ys) → Calls Tryd.prog 18 #[.agg K.toArray, .agg M.toArray, .slice (some ⟨g, 0, none⟩) s.length c] w1 fun e w' => e = .returned (.tuple #[]) ∧ w1.grownBy w' (some g) ∧ Rowf w' g 5 fr (byts X ++ ys) by
    rw [hK, hM, hX]; exact fun ys g c fr w1 hf hb hg hr => dturn_any key nonce hk hn s hm ys g s.length c fr (.inr hf) rfl w w1 hT hb hg hr)
  obtain ⟨r0, r1, hb0, hs2⟩ := two_rows (w := w) (A := K) (B := M) (tA := 23) (tB := 23) rfl
  have HS2 := Lib.hid (show ((w.alloc (.cells K.toArray 23)).alloc (.cells M.toArray 23)).heap.size = w.heap.size + 1 + 1 from hs2)
  rw [← hK, ← hM, ← hX]
  clear hK hKl hM hMl hk hn hX hm hT hs2
  go_enter Tryd.func14, Tryd.ntmps14
  go_wp2_with (first
    | (with_reducible refine wpList_load_row rfl 23 (.tmp 3) rfl w.heap.size rfl 23 K.toArray (0, 0) (.array 32 5) R0.out Tryd.underlying23 rfl hszK.out ?_)
    | (with_reducible refine wpList_load_row rfl 23 (.tmp 4) rfl (w.heap.size + 1) rfl 23 M.toArray (0, 0) (.array 32 5) R1.out Tryd.underlying23 rfl hszM.out ?_)
    | (go_at_call 18; refine (htu.out ys1 _ c1 fr1 _ hf1 hbw1 hg1 rg).mono ?_; rintro e w2 ⟨rfl, hg2, rg2⟩; have hsl : Sl w2 (some ⟨w.heap.size + 1 + 1, 0, none⟩) c1 (byts X) := ⟨Rd.rowf rg2, by rw [length_byts, ← HXl.out]; exact hc1, fun h => by cases h⟩; have hcv := conv_bytes hsl s.length HXl.out; have hbw2 := hbw1.grown hg2 hbw1.size (fun k h => by cases h; omega); clear hsl rg rg2 hg2 hf1 hc1 R0 R1 hbw1 hg1)
    | (refine wpList_conv_row rfl (.tmp 8) rfl s rfl ?_; intro c1 ys1 fr1 w1 rg hf1 hc1 hb1; have R0 := Lib.hid (show w1.heap[w.heap.size]? = some (.cells K.toArray 23 (0, 0)) from r0.later hb1 r0.lt); have R1 := Lib.hid (show w1.heap[w.heap.size + 1]? = some (.cells M.toArray 23 (0, 0)) from r1.later hb1 r1.lt); have hbw1 := hb0.trans (hb1.mono hb0.size); rw [HS2.out] at rg; have hg1 : w.heap.size ≤ w.heap.size + 1 + 1 := (by omega); clear hb1 hb0 r0 r1))
  go_ret
  exact ⟨rfl, hbw2⟩
set_option maxRecDepth 20000 in
set_option maxHeartbeats 1000000 in
theorem dstream_any (key nonce : List UInt8) (hk : key.length = 32) (hn : nonce.length = 32) (many : Int) (hm : many ≤ 1000000) (hm0 : -1000000 ≤ many) (w : World) (hT : Tabs w) :
    Calls Tryd.prog 10 #[.agg (byts key).toArray, .agg (byts nonce).toArray, .int .i64 many] w fun e w' => ∃ A c, e = .returned (.slice A many.toNat c) ∧ Sl w' A c (byts (streamL key nonce many.toNat)) ∧ Below w.heap.size w w' := by
  obtain ⟨i0, hi, hz0, hz1, hz2⟩ := info_parts infoByte
  obtain ⟨K, hK⟩ : ∃ K, K = byts key := ⟨_, rfl⟩
  have hKl : K.length = 32 := by rw [hK, length_byts]; exact hk
  have hszK := Lib.hid (show (Tryd.prog.info? 23).map (·.size) = some K.toArray.size by rw [size_tag, List.size_toArray, hKl])
  obtain ⟨M, hM⟩ : ∃ M, M = byts nonce := ⟨_, rfl⟩
  have hMl : M.length = 32 := by rw [hM, length_byts]; exact hn
  have hszM := Lib.hid (show (Tryd.prog.info? 23).map (·.size) = some M.toArray.size by rw [size_tag, List.size_toArray, hMl])
  obtain ⟨m, hmq⟩ : ∃ m, m = many.toNat := ⟨_, rfl⟩
  have hmm : m ≤ 1000000 := by omega
  obtain ⟨X, hX⟩ : ∃ X, X = streamL key nonce m := ⟨_, rfl⟩
  have HXl := Lib.hid (show X.length = m by rw [hX]; exact length_streamL _ _ _)
  have HTU := Lib.hid (show turnL key nonce (List.replicate m 0) = X by unfold turnL; rw [List.length_replicate, hX]; exact xorWith_zeros m _ (length_streamL _ _ _))
  have htu := Lib.hid (show ∀ (g : Nat) (w1 : World), Below w.heap.size w w1 → w.heap.size ≤ g → Row w1 g 5 (List.replicate m (.int .u8 0)) → Calls Tryd.prog 18 #[.agg K.toArray, .agg M.toArray, .slice (some ⟨g, 0, none⟩) m m] w1 fun e w' => e = .returned (.tuple #[]) ∧ w1.grownBy w' (some g) ∧ Row w' g 5 (byts X) by
    rw [hK, hM]
    intro g w1 hb hg hr
    refine (dturn_any key nonce hk hn (List.replicate m 0) (by rw [List.length_replicate]; omega) [] g m m (0, 0) (.inl (Nat.le_refl _)) (List.length_replicate).symm w w1 hT hb hg (by rw [List.append_nil, byts_zeros]; exact hr)).mono ?_
    rintro e w' ⟨rfl, hg', hr'⟩
    rw [List.append_nil, HTU.out] at hr'
    exact ⟨rfl, hg', hr'⟩)
  obtain ⟨r0, r1, hb0, hs2⟩ := two_rows (w := w) (A := K) (B := M) (tA := 23) (tB := 23) rfl
  have HS2 := Lib.hid (show ((w.alloc (.cells K.toArray 23)).alloc (.cells M.toArray 23)).heap.size = w.heap.size + 1 + 1 from hs2)
  rw [← hK, ← hM, ← hmq, ← hX]
  have HMQ := Lib.hid hmq
  clear hK hKl hM hMl hk hn hX hT hs2
  by_cases hneg : many < 0
  · have h0 : m = 0 := by omega
    have hb1 : i0.bytes * m ≤ 281474976710656 := by rw [hz2]; omega
    have hb2 : m ≤ 9223372036854775807 := by omega
    have hev := Lib.hid (show Value.int .i64 0 = Value.int .i64 (m : Int) by rw [h0]; rfl)
    clear hmq h0 hmm
    go_enter Tryd.func10, Tryd.ntmps10
    go_wp2_with (first
      | (with_reducible refine wpList_load_row rfl 23 (.tmp 3) rfl w.heap.size rfl 23 K.toArray (0, 0) (.array 32 5) R0.out Tryd.underlying23 rfl hszK.out ?_)
      | (with_reducible refine wpList_load_row rfl 23 (.tmp 4) rfl (w.heap.size + 1) rfl 23 M.toArray (0, 0) (.array 32 5) R1.out Tryd.underlying23 rfl hszM.out ?_)
      | (go_at_call 18; refine (htu.out _ _ hbw1 hg1 rg).mono ?_; rintro e w2 ⟨rfl, hg2, rg2⟩; have hsl : Sl w2 (some ⟨w.heap.size + 1 + 1, 0, none⟩) m (byts X) := ⟨Rd.row (ys := []) (by rw [List.append_nil]; exact rg2), by rw [length_byts, HXl.out]; exact Nat.le_refl _, fun h => by cases h⟩; have hbw2 := hbw1.grown hg2 hbw1.size (fun k h => by cases h; omega); clear rg rg2 hg2 R0 R1 hbw1 hg1)
      | (at_make; refine wpList_make_row _ rfl (.tmp 10) (.tmp 10) 28 rfl 5 i0 _ Tryd.underlying28 hi hz0 hz1 rfl .i64 .i64 m hev.out hev.out hb1 hb2 ?_; have hbw1 := hb0.trans (((Below.refl _ _).alloc (Nat.le_refl _) (.cells (madeCells #[.int .u8 0] m) 5) : Below _ ((w.alloc (.cells K.toArray 23)).alloc (.cells M.toArray 23)) _).mono hb0.size); have rg := row_make ((w.alloc (.cells K.toArray 23)).alloc (.cells M.toArray 23)) m; have r0 := r0.later ((Below.refl _ _).alloc (Nat.le_refl _) (.cells (madeCells #[.int .u8 0] m) 5) : Below _ ((w.alloc (.cells K.toArray 23)).alloc (.cells M.toArray 23)) _) r0.lt; have r1 := r1.later ((Below.refl _ _).alloc (Nat.le_refl _) (.cells (madeCells #[.int .u8 0] m) 5) : Below _ ((w.alloc (.cells K.toArray 23)).alloc (.cells M.toArray 23)) _) r1.lt; rw [HS2.out] at rg ⊢; generalize ((w.alloc (.cells K.toArray 23)).alloc (.cells M.toArray 23)).alloc (.cells (madeCells #[.int .u8 0] m) 5) = w1 at *; have R0 := Lib.hid (show w1.heap[w.heap.size]? = some (.cells K.toArray 23 (0, 0)) from r0); have R1 := Lib.hid (show w1.heap[w.heap.size + 1]? = some (.cells M.toArray 23 (0, 0)) from r1); have hg1 : w.heap.size ≤ w.heap.size + 1 + 1 := (by omega); clear hb0 r0 r1))
    go_ret
    exact ⟨_, _, rfl, hsl, hbw2⟩
  · have hev := Lib.hid (show Value.int .i64 (m : Int) = Value.int .i64 (m : Int) from rfl)
    have hb1 : i0.bytes * m ≤ 281474976710656 := by rw [hz2]; omega
    have hb2 : m ≤ 9223372036854775807 := by omega
    obtain rfl : many = (m : Int) := by omega
    clear hmq
    go_enter Tryd.func10, Tryd.ntmps10
    go_wp2_with (first
      | (with_reducible refine wpList_load_row rfl 23 (.tmp 3) rfl w.heap.size rfl 23 K.toArray (0, 0) (.array 32 5) R0.out Tryd.underlying23 rfl hszK.out ?_)
      | (with_reducible refine wpList_load_row rfl 23 (.tmp 4) rfl (w.heap.size + 1) rfl 23 M.toArray (0, 0) (.array 32 5) R1.out Tryd.underlying23 rfl hszM.out ?_)
      | (go_at_call 18; refine (htu.out _ _ hbw1 hg1 rg).mono ?_; rintro e w2 ⟨rfl, hg2, rg2⟩; have hsl : Sl w2 (some ⟨w.heap.size + 1 + 1, 0, none⟩) m (byts X) := ⟨Rd.row (ys := []) (by rw [List.append_nil]; exact rg2), by rw [length_byts, HXl.out]; exact Nat.le_refl _, fun h => by cases h⟩; have hbw2 := hbw1.grown hg2 hbw1.size (fun k h => by cases h; omega); clear rg rg2 hg2 R0 R1 hbw1 hg1)
      | (at_make; refine wpList_make_row _ rfl (.tmp 10) (.tmp 10) 28 rfl 5 i0 _ Tryd.underlying28 hi hz0 hz1 rfl .i64 .i64 m hev.out hev.out hb1 hb2 ?_; have hbw1 := hb0.trans (((Below.refl _ _).alloc (Nat.le_refl _) (.cells (madeCells #[.int .u8 0] m) 5) : Below _ ((w.alloc (.cells K.toArray 23)).alloc (.cells M.toArray 23)) _).mono hb0.size); have rg := row_make ((w.alloc (.cells K.toArray 23)).alloc (.cells M.toArray 23)) m; have r0 := r0.later ((Below.refl _ _).alloc (Nat.le_refl _) (.cells (madeCells #[.int .u8 0] m) 5) : Below _ ((w.alloc (.cells K.toArray 23)).alloc (.cells M.toArray 23)) _) r0.lt; have r1 := r1.later ((Below.refl _ _).alloc (Nat.le_refl _) (.cells (madeCells #[.int .u8 0] m) 5) : Below _ ((w.alloc (.cells K.toArray 23)).alloc (.cells M.toArray 23)) _) r1.lt; rw [HS2.out] at rg ⊢; generalize ((w.alloc (.cells K.toArray 23)).alloc (.cells M.toArray 23)).alloc (.cells (madeCells #[.int .u8 0] m) 5) = w1 at *; have R0 := Lib.hid (show w1.heap[w.heap.size]? = some (.cells K.toArray 23 (0, 0)) from r0); have R1 := Lib.hid (show w1.heap[w.heap.size + 1]? = some (.cells M.toArray 23 (0, 0)) from r1); have hg1 : w.heap.size ≤ w.heap.size + 1 + 1 := (by omega); clear hb0 r0 r1))
    go_ret
    exact ⟨_, _, rfl, hsl, hbw2⟩
end Go.Proofs.YtlocgfekgbdlmaaDoor

/- LAYER 7: the document's block of a stream. -/
namespace Go.Proofs.YtlocgfekgbdlmaaDoor
open Go Go.RowKit

set_option maxRecDepth 20000 in
set_option maxHeartbeats 1000000 in
theorem rblock_any (key nonce : List UInt8) (hk : key.length = 32) (hn : nonce.length = 32) (i : Nat) (hi : i < 9223372036854775808) (w : World) :
    Calls Tryd.prog 19 #[.agg (byts key).toArray, .agg (byts nonce).toArray, .int .i64 i] w fun e w' => e = .returned (.agg (byts (blockL key nonce i)).toArray) ∧ Below w.heap.size w w' := by
  obtain ⟨K, hK⟩ : ∃ K, K = byts key := ⟨_, rfl⟩
  have hKl : K.length = 32 := by rw [hK, length_byts]; exact hk
  have hszK := Lib.hid (show (Tryd.prog.info? 23).map (·.size) = some K.length by rw [size_tag, hKl])
  obtain ⟨M, hM⟩ : ∃ M, M = byts nonce := ⟨_, rfl⟩
  have HM := Lib.hid hM
  obtain ⟨V, hV⟩ : ∃ V, V = byts (blockL key nonce i) := ⟨_, rfl⟩
  have hVl : V.length = 32 := by rw [hV, length_byts]; exact length_blockL _ _ _
  have hone := Lib.hid (show ∀ v ∈ V, v.oneCell' = true by rw [hV]; exact byts_one _)
  have hszl := Lib.hid (show (Tryd.prog.info? 23).map (·.size) = some V.length by rw [size_tag, hVl])
  have hsz2 := Lib.hid (show (Tryd.prog.info? 23).map (·.size) = some V.toArray.size by rw [size_tag, List.size_toArray, hVl])
  have hfit := Lib.hid (show 0 + V.length ≤ (List.replicate 32 (Value.int .u8 0)).length by rw [hVl, List.length_replicate]; decide)
  have HVr := Lib.hid (show splice (List.replicate 32 (Value.int .u8 0)) 0 V = V by
    unfold splice
    rw [List.take_zero, List.nil_append, Nat.zero_add, hVl, List.drop_of_length_le (by rw [List.length_replicate]; exact Nat.le_refl _), List.append_nil])
  obtain ⟨E, hE⟩ : ∃ E, E = eightL i := ⟨_, rfl⟩
  have hnum := Lib.hid (show ∀ w1, Calls Tryd.prog 25 #[.int .u64 i] w1 (GaveBytes E w1) by rw [hE]; exact fun w1 => rnumber_any i (by omega) w1)
  have hkey := Lib.hid (show ∀ w1 B d, Sl w1 B d (strsV [nonce, E]) → Calls Tryd.prog 17 #[.agg K.toArray, .string (bstr streamU), .slice B 2 d] w1 fun e w' => e = .returned (.agg V.toArray) ∧ Below w1.heap.size w1 w' by
    rw [hK, hV, hE]
    exact fun w1 B d h => rkey_any key hk streamU B 2 d [nonce, eightL i] w1 h rfl (by show (6 + 1) + ((nonce.length + 1) + (((eightL i).length + 1) + 0)) ≤ _; rw [length_eightL, hn]; decide))
  have HVD := Lib.hid hV
  have HN := Lib.hid hn
  rw [← hK, ← hM]
  have hwr : IntKind.u64.wrap (i : Int) = (i : Int) := by rw [IntKind.wrap_u64]; omega
  clear hV hVl hK hKl hM hE hk hn hi
  go_enter Tryd.func19, Tryd.ntmps19
  go_wp2_with fail
  generalize hw3 : World.alloc (World.alloc (World.alloc w _) _) _ = w3
  obtain ⟨r0, r1, r2, hb3, hs3⟩ := rows3 (A := K) (B := M) (C := List.replicate 32 (.int .u8 0)) hw3
  have hlt3 : w.heap.size + 1 + 1 < w3.heap.size := r2.lt
  have ne0 : w.heap.size ≠ w.heap.size + 1 + 1 := by omega
  have hcv3 := conv_grown (g := w.heap.size + 1 + 1) (w := w3) (A := some ⟨w.heap.size + 1, 0, none⟩) (c := 32) (l := nonce) ⟨Rd.row (ys := []) (by rw [List.append_nil, ← HM.out]; exact r1), by rw [length_byts, HN.out]; exact Nat.le_refl _, fun h => by cases h⟩ 32 HN.out.symm (fun _ a ha => by cases ha; show w.heap.size + 1 ≠ _; omega)
  clear hw3 hs3 r1
  refine wp_region_noPanic ?_
  refine wp_region_held_drew (S := fun w' => World.grownBy w3 w' (some (w.heap.size + 1 + 1))) (by kernel_rfl) (grown_of_below (Below.refl _ _).drew _) (fun hHeld => ?_)
  have hAll := hHeld
  refine rtake 0 _ (some 7) _ rfl rfl (by kernel_rfl) (by kernel_rfl) (by kernel_rfl) (fun _ _ _ h => h) (by rfl) hHeld (by intro w hS; exact run_load_op 23 (.tmp 3) rfl _ 0 rfl K _ (row_range (r0.grown hS ne0)) Tryd.underlying23 rfl hszK.out) ?_
  try (first | (rw [put_some]; dsimp only [List.set]) | rw [put_none])
  refine rtake 1 _ (some 8) _ rfl rfl (by kernel_rfl) (by kernel_rfl) (by kernel_rfl) (fun _ _ _ h => h) (by rfl) hHeld (by intro w hS; go_simp; try with_reducible rfl) ?_
  try (first | (rw [put_some]; dsimp only [List.set]) | rw [put_none])
  refine rtake 2 _ (some 9) _ rfl rfl (by kernel_rfl) (by kernel_rfl) (by kernel_rfl) (fun _ _ _ h => h) (by rfl) hHeld (by intro w hS; go_simp; try with_reducible rfl) ?_
  try (first | (rw [put_some]; dsimp only [List.set]) | rw [put_none])
  refine rtake 3 _ (some 10) _ rfl rfl (by kernel_rfl) (by kernel_rfl) (by kernel_rfl) (fun _ _ _ h => h) (by rfl) hHeld (by intro w hS; go_simp; try with_reducible rfl) ?_
  try (first | (rw [put_some]; dsimp only [List.set]) | rw [put_none])
  refine rtake 4 _ (some 11) _ rfl rfl (by kernel_rfl) (by kernel_rfl) (by kernel_rfl) (fun _ _ _ h => h) (by rfl) hHeld (by intro w hS; go_simp; try with_reducible rfl) ?_
  try (first | (rw [put_some]; dsimp only [List.set]) | rw [put_none])
  refine wpAnyH_ready (rs := [5]) (by kernel_rfl) (by simp) (AllReadyH.cons (o := _) rfl (fun K hK => ?_) AllReadyH.nil)
  go_simp
  refine (hnum.out _).mono ?_; rintro e w4 ⟨v4, rfl, hown4, hb4⟩; have hb34 := ((Below.refl w3.heap.size w3).drew).trans (hb4.mono (Nat.le_refl _)); obtain ⟨A4, c4, rfl, _, hsl4⟩ := Sl.of_own hown4; have hcv4 := conv_grown (g := w.heap.size + 1 + 1) hsl4 _ rfl (fun _ a ha => own_apart hown4 hlt3 a ha); clear hown4
  try go_wp2_with fail
  refine hK.out _ _ (grown_trans hHeld (grown_of_below hb4 _)) (fun _ => ?_)
  clear hK K
  try (first | (rw [put_some]; dsimp only [List.set]) | rw [put_none])
  have hAll := grown_trans hAll (grown_of_below hb4 _)
  refine wpAnyH_narrow (S' := fun w' => World.grownBy w4 w' (some (w.heap.size + 1 + 1))) (fun _ h => grown_trans (grown_trans hHeld (grown_of_below hb4 _)) h) _ _ _ _ ?_
  clear hHeld
  have hHeld : World.grownBy w4 w4 (some (w.heap.size + 1 + 1)) := grown_refl _ _
  refine rtake 6 _ (some 13) _ rfl rfl (by kernel_rfl) (by kernel_rfl) (by kernel_rfl) (fun _ _ _ h => h) (by rfl) hHeld (by intro w hS; go_simp; try with_reducible rfl) ?_
  try (first | (rw [put_some]; dsimp only [List.set]) | rw [put_none])
  refine wpAnyH_ready (rs := [7]) (by kernel_rfl) (by simp) (AllReadyH.cons (o := _) rfl (fun K hK => ?_) AllReadyH.nil)
  refine step_alloc (some 14) rfl (by rfl) (.slice (some ⟨w4.heap.size, 0, none⟩) 2 2) (.cells #[.string (bstr nonce), .string (bstr E)] 9) (by go_simp) ?_; intro w5 hw5 hb5; have hb35 := below_step hb34 hb5; have hss : Sl w5 (some ⟨w4.heap.size, 0, none⟩) 2 (strsV [nonce, E]) := (by rw [hw5]; exact ⟨Rd.row (ys := []) (by rw [List.append_nil]; exact Row.new w4 9 (strsV [nonce, E])), by rw [length_strsV]; exact Nat.le_refl _, fun h => by cases h⟩); clear hw5
  refine hK.out _ _ (grown_trans hHeld (grown_of_below hb5 _)) (fun _ => ?_)
  clear hK K
  try (first | (rw [put_some]; dsimp only [List.set]) | rw [put_none])
  have hAll := grown_trans hAll (grown_of_below hb5 _)
  refine wpAnyH_narrow (S' := fun w' => World.grownBy w5 w' (some (w.heap.size + 1 + 1))) (fun _ h => grown_trans (grown_trans hHeld (grown_of_below hb5 _)) h) _ _ _ _ ?_
  clear hHeld
  have hHeld : World.grownBy w5 w5 (some (w.heap.size + 1 + 1)) := grown_refl _ _
  refine wpAnyH_ready (rs := [8]) (by kernel_rfl) (by simp) (AllReadyH.cons (o := _) rfl (fun K hK => ?_) AllReadyH.nil)
  go_simp
  refine (hkey.out _ _ _ hss).mono ?_; rintro e w6 ⟨rfl, hb6⟩; have hb36 := below_step hb35 hb6
  try go_wp2_with fail
  refine hK.out _ _ (grown_trans hHeld (grown_of_below hb6 _)) (fun _ => ?_)
  clear hK K
  try (first | (rw [put_some]; dsimp only [List.set]) | rw [put_none])
  have hAll := grown_trans hAll (grown_of_below hb6 _)
  refine wpAnyH_narrow (S' := fun w' => World.grownBy w6 w' (some (w.heap.size + 1 + 1))) (fun _ h => grown_trans (grown_trans hHeld (grown_of_below hb6 _)) h) _ _ _ _ ?_
  clear hHeld
  have hHeld : World.grownBy w6 w6 (some (w.heap.size + 1 + 1)) := grown_refl _ _
  refine wpAnyH_ready (rs := [9]) (by kernel_rfl) (by simp) (AllReadyH.cons (o := _) rfl (fun K hK => ?_) AllReadyH.nil)
  refine step_store_row none rfl (by rfl) 23 (.tmp 6) (.tmp 15) rfl (w.heap.size + 1 + 1) 0 23 _ V rfl rfl (r2.later hb36 r2.lt) hfit.out hszl.out hone.out ?_; intro w9 r9 hg9
  refine hK.out _ _ (grown_trans hHeld hg9) (fun _ => ?_)
  clear hK K
  try (first | (rw [put_some]; dsimp only [List.set]) | rw [put_none])
  have hAll := grown_trans hAll hg9
  refine wpAnyH_narrow (S' := fun w' => World.grownBy w9 w' (some (w.heap.size + 1 + 1))) (fun _ h => grown_trans (grown_trans hHeld hg9) h) _ _ _ _ ?_
  clear hHeld
  have hHeld : World.grownBy w9 w9 (some (w.heap.size + 1 + 1)) := grown_refl _ _
  refine wpAnyH_done (by kernel_rfl) ?_ _
  refine NoPanic.normal ?_
  have r9 : Row w9 (w.heap.size + 1 + 1) 23 V := by rw [HVr.out] at r9; exact r9
  have hb9 := hb3.grown hAll hb3.size (fun k h => by cases h; omega)
  have R9 := Lib.hid (show w9.heap[w.heap.size + 1 + 1]? = some (.cells V.toArray 23 (0, 0)) from r9)
  clear r9 hg9 r0 r2 hcv3 hcv4 hsl4 hss hb4 hb5 hb6 hb34 hb35 hb36 hb3 hAll hHeld
  go_wp2_with (with_reducible refine bodyPost_ret (results_cell_row rfl _ _ (w.heap.size + 1 + 1) 23 V.toArray (0, 0) (.array 32 5) rfl R9.out Tryd.underlying23 rfl hsz2.out) rfl ?_)
  exact ⟨by rw [HVD.out], hb9⟩
end Go.Proofs.YtlocgfekgbdlmaaDoor

/- LAYER 7: the document's Stream. -/
namespace Go.Proofs.YtlocgfekgbdlmaaDoor
open Go Go.RowKit

theorem heap_at4 (w : World) (a b c d : Obj) : ((((w.alloc a).alloc b).alloc c).alloc d).heap[w.heap.size + 1 + 1 + 1]? = some d := by
  have := heap_alloc_new (((w.alloc a).alloc b).alloc c) d
  rwa [World.size_alloc, World.size_alloc, World.size_alloc] at this
theorem rows4_set {w w4 : World} {A B : List Value} {C : Obj} {D : Array Value} {tA tB tD : TypeId} {xs : List Value}
    (h : ((((w.alloc (.cells A.toArray tA)).alloc (.cells B.toArray tB)).alloc C).alloc (.cells D tD)).setRow (w.heap.size + 1 + 1 + 1) xs.toArray = w4) :
    Row w4 w.heap.size tA A ∧ Row w4 (w.heap.size + 1) tB B ∧ Row w4 (w.heap.size + 1 + 1 + 1) tD xs ∧ Below w.heap.size w w4 ∧ w.heap.size + 1 + 1 + 1 + 1 ≤ w4.heap.size := by
  subst h
  have s1 : (w.alloc (.cells A.toArray tA)).heap.size = w.heap.size + 1 := World.size_alloc _ _
  have s2 : ((w.alloc (.cells A.toArray tA)).alloc (.cells B.toArray tB)).heap.size = w.heap.size + 1 + 1 := by rw [World.size_alloc, s1]
  have s3 : (((w.alloc (.cells A.toArray tA)).alloc (.cells B.toArray tB)).alloc C).heap.size = w.heap.size + 1 + 1 + 1 := by rw [World.size_alloc, s2]
  have b3 : Below (w.heap.size + 1 + 1) ((w.alloc (.cells A.toArray tA)).alloc (.cells B.toArray tB)) ((((w.alloc (.cells A.toArray tA)).alloc (.cells B.toArray tB)).alloc C).alloc (.cells D tD)) :=
    ((Below.refl _ _).alloc (by rw [s2]; exact Nat.le_refl _) _).alloc (by rw [s3]; omega) _
  have g := grown_setRow ((((w.alloc (.cells A.toArray tA)).alloc (.cells B.toArray tB)).alloc C).alloc (.cells D tD)) (w.heap.size + 1 + 1 + 1) xs.toArray
  have r0 : Row ((w.alloc (.cells A.toArray tA)).alloc (.cells B.toArray tB)) w.heap.size tA A := heap_alloc2_old w _ _
  have r1 : Row ((w.alloc (.cells A.toArray tA)).alloc (.cells B.toArray tB)) (w.heap.size + 1) tB B := heap_alloc2_new w _ _
  have b2 : Below w.heap.size w ((w.alloc (.cells A.toArray tA)).alloc (.cells B.toArray tB)) := ((Below.refl _ w).alloc (Nat.le_refl _) _).alloc (by omega) _
  refine ⟨(r0.later b3 (by omega)).grown g (by omega), (r1.later b3 (by omega)).grown g (by omega), setRow_heap _ _ _ _ _ _ (heap_at4 w _ _ _ _), (b2.trans (b3.mono (by omega))).grown g (by rw [World.size_alloc, s3]; omega) (fun k h => by cases h; omega), ?_⟩
  have := g.size
  rw [World.size_alloc, s3] at this
  exact this
set_option maxRecDepth 20000 in
set_option maxHeartbeats 2000000 in
theorem rstream_any (key nonce : List UInt8) (hk : key.length = 32) (hn : nonce.length = 32) (many : Nat) (hm : many ≤ 1000000000) (w : World) :
    Calls Tryd.prog 11 #[.agg (byts key).toArray, .agg (byts nonce).toArray, .int .i64 many] w fun e w' => ∃ A c, e = .returned (.slice A many c) ∧ Sl w' A c (byts (streamL key nonce many)) ∧ Below w.heap.size w w' := by
  obtain ⟨i0, hi, hz0, hz1, hz2⟩ := info_parts infoByte
  obtain ⟨K, hK⟩ : ∃ K, K = byts key := ⟨_, rfl⟩
  have hKl : K.length = 32 := by rw [hK, length_byts]; exact hk
  have hszK := Lib.hid (show (Tryd.prog.info? 23).map (·.size) = some K.toArray.size by rw [size_tag, List.size_toArray, hKl])
  obtain ⟨M, hM⟩ : ∃ M, M = byts nonce := ⟨_, rfl⟩
  have hMl : M.length = 32 := by rw [hM, length_byts]; exact hn
  have hszM := Lib.hid (show (Tryd.prog.info? 23).map (·.size) = some M.toArray.size by rw [size_tag, List.size_toArray, hMl])
  have hblk := Lib.hid (show ∀ w1 (i : Nat), i < 9223372036854775808 → Calls Tryd.prog 19 #[.agg K.toArray, .agg M.toArray, .int .i64 i] w1 fun e w' => e = .returned (.agg (byts (blockL key nonce i)).toArray) ∧ Below w1.heap.size w1 w' by
    rw [hK, hM]; exact fun w1 i hi => rblock_any key nonce hk hn i hi w1)
  rw [← hK, ← hM]
  clear hK hKl hM hMl hk hn
  go_enter Tryd.func11, Tryd.ntmps11
  go_wp2_with (with_reducible refine wpList_store_row rfl 23 (.tmp 8) (.tmp 11) rfl (w.heap.size + 1 + 1 + 1) _ rfl rfl 23 _ (heap_at4 w _ _ _ _) (by kernel_rfl) (by kernel_rfl) (by kernel_rfl) ?_; refine Hid.out ?_)
  refine Lib.hid ?_
  generalize hw4 : World.setRow _ _ _ = w4
  obtain ⟨r0, r1, r3, hb4, h4⟩ := rows4_set (A := K) (B := M) (xs := List.replicate 32 (.int .u8 0)) hw4
  rw [zero_cells] at r3
  clear hw4
  go_wp2_with fail
  go_loopw [7, 9] (fun v i wr => ∃ k : Nat, k ≤ many ∧ i = .int .i64 k ∧ Begun wr (w.heap.size + 1 + 1 + 1 + 1) 5 v k (byts (streamL key nonce k)) ∧ Row wr w.heap.size 23 K ∧ Row wr (w.heap.size + 1) 23 M ∧ (∃ T : List UInt8, T.length = 32 ∧ Row wr (w.heap.size + 1 + 1 + 1) 23 (byts T) ∧ (k % 32 ≠ 0 → T = blockL key nonce (k / 32))) ∧ Below w.heap.size w wr ∧ w.heap.size + 1 + 1 + 1 + 1 ≤ wr.heap.size) (fun _ i _ => many - (intOf i).toNat)
  case atStart => exact ⟨0, by omega, rfl, Begun.lit _ _ _ _, r0, r1, ⟨zeroT, rfl, r3, fun h => absurd rfl h⟩, hb4, h4⟩
  case round =>
    clear r0 r1 r3 hb4 h4
    obtain ⟨k, hk, rfl, hbeg, r0, r1, ⟨T, hTl, rT, hT⟩, hb, h4⟩ := hrel
    by_cases hlt : k < many
    · have n1 : k + 1 ≤ maxLen := by unfold maxLen; omega
      have n2 : (k + 1) * 1 ≤ 140737488355328 := by omega
      obtain ⟨r, hrk⟩ : ∃ r, r = k % 32 := ⟨_, rfl⟩
      have hr : r < 32 := by omega
      have hrem : (k : Int) % (32 : Int) = (r : Int) := by rw [hrk]; omega
      have hk32 := Lib.hid hrk
      have hT := fun h : r ≠ 0 => hT (by rw [← hrk]; exact h)
      clear hrk
      by_cases h0 : r = 0
      · have HR := Lib.hid hrem
        have hrem0 : (k : Int) % (32 : Int) = 0 := by rw [hrem, h0]; rfl
        clear hrem h0
        obtain ⟨q, hq⟩ : ∃ q, q = k / 32 := ⟨_, rfl⟩
        have hquo : (k : Int) / (32 : Int) = (q : Int) := by rw [hq]; omega
        have hqb : q < 9223372036854775808 := by omega
        obtain ⟨T', hT'⟩ : ∃ T', T' = blockL key nonce (k / 32) := ⟨_, rfl⟩
        obtain ⟨V, hV⟩ : ∃ V, V = byts T' := ⟨_, rfl⟩
        have hVl : V.length = 32 := by rw [hV, length_byts, hT']; exact length_blockL _ _ _
        have hone := Lib.hid (all_one (show ∀ v ∈ V, v.oneCell' = true by rw [hV]; exact byts_one _))
        have hsz := Lib.hid (show (Tryd.prog.info? 23).map (·.size) = some V.toArray.size by rw [size_tag, List.size_toArray, hVl])
        have hszo := Lib.hid (show (byts T).toArray.size = V.toArray.size by rw [List.size_toArray, List.size_toArray, length_byts, hTl, hVl])
        have hb1 := Lib.hid (show Calls Tryd.prog 19 #[.agg K.toArray, .agg M.toArray, .int .i64 (q : Int)] wr fun e w' => e = .returned (.agg V.toArray) ∧ Below wr.heap.size wr w' by rw [hV, hT', ← hq]; exact hblk.out wr q hqb)
        have HV := Lib.hid hV
        have HT' := Lib.hid hT'
        have HK1 := Lib.hid (show (k + 1) % 32 ≠ 0 → T' = blockL key nonce ((k + 1) / 32) from fun _ => by rw [hT', show (k + 1) / 32 = k / 32 by omega])
        have R0 := Lib.hid (show wr.heap[w.heap.size]? = some (.cells K.toArray 23 (0, 0)) from r0)
        have R1 := Lib.hid (show wr.heap[w.heap.size + 1]? = some (.cells M.toArray 23 (0, 0)) from r1)
        have hTl' : T'.length = 32 := by rw [hT']; exact length_blockL _ _ _
        clear hV hVl hT' hT hr hq hqb
        go_wp2_with (first
          | (with_reducible refine wpList_load_row rfl 23 (.tmp 3) rfl w.heap.size rfl 23 K.toArray (0, 0) (.array 32 5) R0.out Tryd.underlying23 rfl hszK.out ?_)
          | (with_reducible refine wpList_load_row rfl 23 (.tmp 4) rfl (w.heap.size + 1) rfl 23 M.toArray (0, 0) (.array 32 5) R1.out Tryd.underlying23 rfl hszM.out ?_)
          | (go_at_call 19; refine hb1.out.mono ?_; rintro e w5 ⟨rfl, hb5⟩; have RT := Lib.hid (show w5.heap[w.heap.size + 1 + 1 + 1]? = some (.cells (byts T).toArray 23 (0, 0)) from rT.later hb5 rT.lt))
          | (with_reducible refine wpList_store_row rfl 23 (.tmp 8) (.tmp 24) rfl (w.heap.size + 1 + 1 + 1) V.toArray rfl rfl 23 _ RT.out hsz.out hszo.out hone.out ?_; refine Hid.out ?_))
        refine Lib.hid ?_
        generalize hw6 : World.setRow _ _ _ = w6
        obtain ⟨r6, hg6⟩ := row_set (show Row w5 (w.heap.size + 1 + 1 + 1) 23 (byts T) from RT.out) hw6
        have hTl := hTl'
        have hT := HT'.out
        have hr : r < 32 := by have := hk32.out; omega
        rw [HV.out] at r6
        have r0' := (r0.later hb5 r0.lt).grown hg6 (by omega)
        have r1' := (r1.later hb5 r1.lt).grown hg6 (by omega)
        have hbeg6 := (hbeg.later hb5 (Nat.le_refl _)).grown hg6 (by omega)
        have hb6 := (hb.trans (hb5.mono hb.size)).grown hg6 (Nat.le_trans hb.size hb5.size) (fun k h => by cases h; omega)
        have H4 : w.heap.size + 1 + 1 + 1 + 1 ≤ w6.heap.size := Nat.le_trans h4 (Nat.le_trans hb5.size hg6.size)
        clear hw6 R0 R1 RT hb1 hsz hszo hone HV HT' hTl' hbeg r0 r1 rT
        generalize T' = T at *
        have hrem := HR.out
        clear hrem0
        have hcell : w6.cell? ⟨w.heap.size + 1 + 1 + 1, r, none⟩ = some (.int .u8 ((T.getD r 0).toNat : Int)) := by rw [r6.cell, get_byts _ _ (by rw [hTl]; exact hr)]
        have HS := Lib.hid (streamL_succ key nonce k)
        have HT := Lib.hid (show (blockL key nonce (k / 32)).getD (k % 32) 0 = T.getD r 0 by rw [← hT, ← hk32.out])
        generalize T.getD r 0 = x at *
        have hbsz := hb6.size
        have hbeg5 := (hbeg6).later ((Below.refl (w6).heap.size w6).alloc (Nat.le_refl _) (.cells (byts [x]).toArray 5)) (Nat.le_refl _)
        have hsx : Sl ((w6).alloc (.cells (byts [x]).toArray 5)) (some ⟨(w6).heap.size, 0, none⟩) 1 (byts [x]) := ⟨Rd.block (Go.heap_alloc_new (w6) _), by rw [length_byts]; exact Nat.le_refl _, fun h => by cases h⟩
        have hbx : w.heap.size + 1 + 1 + 1 + 1 ≤ ((w6).alloc (.cells (byts [x]).toArray 5)).heap.size := by rw [World.size_alloc]; exact Nat.le_succ_of_le H4
        have hrr : (r : Int) < 32 := by omega
        clear hT
        go_wp2_with (at_builtin; refine wpList_append_begun rfl (.tmp 25) (.tmp 30) 28 rfl (w.heap.size + 1 + 1 + 1 + 1) 5 i0 _ 1 Tryd.underlying28 hi hz0 hz1 hz2 rfl _ k (byts (streamL key nonce k)) rfl hbeg5 (some ⟨(w6).heap.size, 0, none⟩) 1 1 (byts [x]) rfl rfl (by decide) hsx (byts_one _) n1 n2 hbx ?_; intro v7 w7 hown7 hb7)
        have hbA := ((Below.refl (w6).heap.size w6).alloc (Nat.le_refl _) (.cells (byts [x]).toArray 5))
        have hb57 : Below (w.heap.size + 1 + 1 + 1 + 1) w6 w7 := (hbA.mono H4).trans hb7
        rw [← byts_append, ← HT.out, ← HS.out] at hown7
        go_roundw
        case rel => exact ⟨k + 1, by omega, by go_num, .inr hown7, r0'.later hb57 (by omega), r1'.later hb57 (by omega), ⟨T, hTl, r6.later hb57 (by omega), fun h => HK1.out h⟩, (hb6).trans (hb57.mono (by omega)), Nat.le_trans H4 hb57.size⟩
        case measure => simp [intOf]; omega
      · have hr0 : ¬ (r : Int) = 0 := by omega
        have hT := hT h0
        have r0' := r0
        have r1' := r1
        have H4 := h4
        have HK1 := Lib.hid (show (k + 1) % 32 ≠ 0 → T = blockL key nonce ((k + 1) / 32) from fun h => by rw [hT, show (k + 1) / 32 = k / 32 by omega])
        have hcell : wr.cell? ⟨w.heap.size + 1 + 1 + 1, r, none⟩ = some (.int .u8 ((T.getD r 0).toNat : Int)) := by rw [rT.cell, get_byts _ _ (by rw [hTl]; exact hr)]
        have HS := Lib.hid (streamL_succ key nonce k)
        have HT := Lib.hid (show (blockL key nonce (k / 32)).getD (k % 32) 0 = T.getD r 0 by rw [← hT, ← hk32.out])
        generalize T.getD r 0 = x at *
        have hbsz := hb.size
        have hbeg5 := (hbeg).later ((Below.refl (wr).heap.size wr).alloc (Nat.le_refl _) (.cells (byts [x]).toArray 5)) (Nat.le_refl _)
        have hsx : Sl ((wr).alloc (.cells (byts [x]).toArray 5)) (some ⟨(wr).heap.size, 0, none⟩) 1 (byts [x]) := ⟨Rd.block (Go.heap_alloc_new (wr) _), by rw [length_byts]; exact Nat.le_refl _, fun h => by cases h⟩
        have hbx : w.heap.size + 1 + 1 + 1 + 1 ≤ ((wr).alloc (.cells (byts [x]).toArray 5)).heap.size := by rw [World.size_alloc]; exact Nat.le_succ_of_le H4
        have hrr : (r : Int) < 32 := by omega
        clear hT
        go_wp2_with (at_builtin; refine wpList_append_begun rfl (.tmp 25) (.tmp 30) 28 rfl (w.heap.size + 1 + 1 + 1 + 1) 5 i0 _ 1 Tryd.underlying28 hi hz0 hz1 hz2 rfl _ k (byts (streamL key nonce k)) rfl hbeg5 (some ⟨(wr).heap.size, 0, none⟩) 1 1 (byts [x]) rfl rfl (by decide) hsx (byts_one _) n1 n2 hbx ?_; intro v7 w7 hown7 hb7)
        have hbA := ((Below.refl (wr).heap.size wr).alloc (Nat.le_refl _) (.cells (byts [x]).toArray 5))
        have hb57 : Below (w.heap.size + 1 + 1 + 1 + 1) wr w7 := (hbA.mono H4).trans hb7
        rw [← byts_append, ← HT.out, ← HS.out] at hown7
        go_roundw
        case rel => exact ⟨k + 1, by omega, by go_num, .inr hown7, r0'.later hb57 (by omega), r1'.later hb57 (by omega), ⟨T, hTl, rT.later hb57 (by omega), fun h => HK1.out h⟩, (hb).trans (hb57.mono (by omega)), Nat.le_trans H4 hb57.size⟩
        case measure => simp [intOf]; omega
    · obtain rfl : k = many := by omega
      obtain ⟨A, c, rfl, _, hsl⟩ := hbeg.sl
      clear hlt hk
      go_wp2
      go_ret
      exact ⟨A, c, rfl, hsl, hb⟩
end Go.Proofs.YtlocgfekgbdlmaaDoor

/- LAYER 7: the document's turned bytes. -/
namespace Go.Proofs.YtlocgfekgbdlmaaDoor
open Go Go.RowKit

set_option maxRecDepth 20000 in
set_option maxHeartbeats 2000000 in
theorem rturn7_any (key nonce : List UInt8) (hk : key.length = 32) (hn : nonce.length = 32) (s : List UInt8) (hs : s.length ≤ 1000000000) (w : World) :
    Calls Tryd.prog 16 #[.agg (byts key).toArray, .agg (byts nonce).toArray, .string (bstr s)] w fun e w' => e = .returned (.string (bstr (turnL key nonce s))) ∧ Below w.heap.size w w' := by
  obtain ⟨i0, hi, hz0, hz1, hz2⟩ := info_parts infoByte
  obtain ⟨K, hK⟩ : ∃ K, K = byts key := ⟨_, rfl⟩
  have hKl : K.length = 32 := by rw [hK, length_byts]; exact hk
  have hszK := Lib.hid (show (Tryd.prog.info? 23).map (·.size) = some K.toArray.size by rw [size_tag, List.size_toArray, hKl])
  obtain ⟨M, hM⟩ : ∃ M, M = byts nonce := ⟨_, rfl⟩
  have hMl : M.length = 32 := by rw [hM, length_byts]; exact hn
  have hszM := Lib.hid (show (Tryd.prog.info? 23).map (·.size) = some M.toArray.size by rw [size_tag, List.size_toArray, hMl])
  obtain ⟨X, hX⟩ : ∃ X, X = streamL key nonce s.length := ⟨_, rfl⟩
  have hXl : X.length = s.length := by rw [hX]; exact length_streamL _ _ _
  have hstr := Lib.hid (show ∀ w1, Calls Tryd.prog 11 #[.agg K.toArray, .agg M.toArray, .int .i64 s.length] w1 fun e w' => ∃ A c, e = .returned (.slice A s.length c) ∧ Sl w' A c (byts X) ∧ Below w1.heap.size w1 w' by
    rw [hK, hM, hX]; exact fun w1 => rstream_any key nonce hk hn s.length hs w1)
  have HX := Lib.hid hX
  have hz := size_bstr s
  have h0 := two_rows (w := w) (A := K) (B := M) (tA := 23) (tB := 23) rfl
  obtain ⟨r0, r1, hb0, _⟩ := h0
  have R0 := Lib.hid (show ((w.alloc (.cells K.toArray 23)).alloc (.cells M.toArray 23)).heap[w.heap.size]? = some (.cells K.toArray 23 (0, 0)) from r0)
  have R1 := Lib.hid (show ((w.alloc (.cells K.toArray 23)).alloc (.cells M.toArray 23)).heap[w.heap.size + 1]? = some (.cells M.toArray 23 (0, 0)) from r1)
  rw [← hK, ← hM]
  clear hK hKl hM hMl hk hn hX r0 r1
  go_enter Tryd.func16, Tryd.ntmps16
  go_wp2_with (first
    | (with_reducible refine wpList_load_row rfl 23 (.tmp 3) rfl w.heap.size rfl 23 K.toArray (0, 0) (.array 32 5) R0.out Tryd.underlying23 rfl hszK.out ?_)
    | (with_reducible refine wpList_load_row rfl 23 (.tmp 4) rfl (w.heap.size + 1) rfl 23 M.toArray (0, 0) (.array 32 5) R1.out Tryd.underlying23 rfl hszM.out ?_)
    | (go_at_call 11; refine (hstr.out _).mono ?_; rintro e w1 ⟨A1, c1, rfl, hslX, hb1⟩; have hbw1 := hb0.trans (hb1.mono hb0.size); have hown0 : (w1.alloc (.cells #[] 5)).ownsRow w1.heap.size 5 1 (.slice (some ⟨w1.heap.size, 0, none⟩) 0 0) 0 [] := World.ownsRow_lit w1 #[] 0 (Nat.le_refl _) (by unfold maxLen; omega) rfl; have hbl := (Below.refl w1.heap.size w1).alloc (Nat.le_refl _) (.cells #[] 5); clear hb1 hb0 R0 R1))
  go_loopw [8, 9] (fun v i wr => ∃ k : Nat, k ≤ s.length ∧ i = .int .i64 k ∧ wr.ownsRow w1.heap.size 5 1 v k (byts (xorWith (s.take k) (X.take k))) ∧ Below w1.heap.size w1 wr) (fun _ i _ => s.length - (intOf i).toNat)
  case atStart => exact ⟨0, by omega, rfl, hown0, hbl⟩
  case round =>
    clear hown0 hbl
    obtain ⟨k, hk, rfl, hown, hb⟩ := hrel
    by_cases hlt : k < s.length
    · obtain ⟨b, o, rfl, _, _⟩ := hslX.rd.get (i := 0) (by rw [length_byts]; omega)
      have n1 : k + 1 ≤ maxLen := by unfold maxLen; omega
      have n2 : (k + 1) * 1 ≤ 140737488355328 := by omega
      have hixs := index_bstr s k hlt
      have hixX := index_bytes (some ⟨b, o, none⟩) b o s.length c1 k rfl hlt
      have hcX : ∀ w', Below w1.heap.size w1 w' → w'.cell? ⟨b, o + k, none⟩ = some (.int .u8 ((X.getD k 0).toNat : Int)) := fun w' h => by
        obtain ⟨b', o', he, _, hc⟩ := (hslX.later (Nat.le_refl _) h).rd.get (i := k) (by rw [length_byts]; omega)
        cases he
        rw [hc, get_byts _ _ (by omega)]
      have HS := Lib.hid (xorWith_succ s X k hlt (by omega))
      generalize xorWith (s.take k) (X.take k) = F at *
      generalize s.getD k 0 = x at *
      generalize X.getD k 0 = y at *
      have hby := Lib.hid (show byts [x ^^^ y] = [Value.int .u8 (bits .xor .u8 (x.toNat : Int) (y.toNat : Int))] by rw [byte_xor]; rfl)
      generalize hU : bstr s = U at *
      clear hU
      go_wp2_with fail
      refine wp_region_noPanic ?_
      refine wp_region_held_drew (S := fun w' => Below w1.heap.size w1 w') (by kernel_rfl) (hb.drew) (fun hHeld => ?_)
      refine rtake 0 _ (some 22) _ rfl rfl (by kernel_rfl) (by kernel_rfl) (by kernel_rfl) (fun _ _ _ h => h) (by rfl) hHeld (by intro w hS; go_simp; try with_reducible rfl) ?_
      try (first | (rw [put_some]; dsimp only [List.set]) | rw [put_none])
      refine rtake 1 _ (some 23) _ rfl rfl (by kernel_rfl) (by kernel_rfl) (by kernel_rfl) (fun _ _ _ h => h) (by rfl) hHeld (by intro w hS; go_simp; try with_reducible rfl) ?_
      try (first | (rw [put_some]; dsimp only [List.set]) | rw [put_none])
      refine rtake 2 _ (some 24) _ rfl rfl (by kernel_rfl) (by kernel_rfl) (by kernel_rfl) (fun _ _ _ h => h) (by rfl) hHeld (by intro w hS; go_simp; try with_reducible rfl) ?_
      try (first | (rw [put_some]; dsimp only [List.set]) | rw [put_none])
      refine rtake 3 _ (some 25) _ rfl rfl (by kernel_rfl) (by kernel_rfl) (by kernel_rfl) (fun _ _ _ h => h) (by rfl) hHeld (by intro w hS; go_simp; try with_reducible rfl) ?_
      try (first | (rw [put_some]; dsimp only [List.set]) | rw [put_none])
      refine rtake 4 _ (some 26) _ rfl rfl (by kernel_rfl) (by kernel_rfl) (by kernel_rfl) (fun _ _ _ h => h) (by rfl) hHeld (by intro w hS; go_simp; try with_reducible rfl) ?_
      try (first | (rw [put_some]; dsimp only [List.set]) | rw [put_none])
      refine rtake 5 _ (some 27) _ rfl rfl (by kernel_rfl) (by kernel_rfl) (by kernel_rfl) (fun _ _ _ h => h) (by rfl) hHeld (by intro w hS; go_simp; try with_reducible rfl) ?_
      try (first | (rw [put_some]; dsimp only [List.set]) | rw [put_none])
      refine rtake 6 _ (some 28) _ rfl rfl (by kernel_rfl) (by kernel_rfl) (by kernel_rfl) (fun _ _ _ h => h) (by rfl) hHeld (by intro w hS; go_simp; try with_reducible rfl) ?_
      try (first | (rw [put_some]; dsimp only [List.set]) | rw [put_none])
      refine rtake 7 _ (some 29) _ rfl rfl (by kernel_rfl) (by kernel_rfl) (by kernel_rfl) (fun _ _ _ h => h) (by rfl) hHeld (by intro w hS; go_simp; try with_reducible rfl) ?_
      try (first | (rw [put_some]; dsimp only [List.set]) | rw [put_none])
      refine rtake 8 _ (some 30) _ rfl rfl (by kernel_rfl) (by kernel_rfl) (by kernel_rfl) (fun _ _ _ h => h) (by rfl) hHeld (by intro w hS; go_simp; try with_reducible rfl) ?_
      try (first | (rw [put_some]; dsimp only [List.set]) | rw [put_none])
      refine wpAnyH_ready (rs := [9]) (by kernel_rfl) (by simp) (AllReadyH.cons (o := _) rfl (fun K hK => ?_) AllReadyH.nil)
      refine step_alloc (some 31) rfl (by rfl) (.slice (some ⟨wr.heap.size, 0, none⟩) 1 1) (.cells (byts [x ^^^ y]).toArray 5) (by rw [hby.out]; go_simp) ?_; intro w4 hw4 hb4; have hsx : Sl w4 (some ⟨wr.heap.size, 0, none⟩) 1 (byts [x ^^^ y]) := (by rw [hw4]; exact ⟨Rd.block (Go.heap_alloc_new wr.drew _), by rw [length_byts]; exact Nat.le_refl _, fun h => by cases h⟩); have hown4 := own_later hown ((Below.refl wr.heap.size wr).drew.trans hb4) (Nat.le_refl _); clear hw4
      refine hK.out _ _ (hHeld.trans (hb4.mono hHeld.size)) (fun hHeld => ?_)
      clear hK K
      try (first | (rw [put_some]; dsimp only [List.set]) | rw [put_none])
      refine wpAnyH_ready (rs := [10]) (by kernel_rfl) (by simp) (AllReadyH.cons (o := _) rfl (fun K hK => ?_) AllReadyH.nil)
      refine step_append_at (some 32) rfl (by rfl) (.tmp 22) (.tmp 31) 28 rfl w1.heap.size 5 i0 _ 1 Tryd.underlying28 hi hz0 hz1 hz2 rfl _ k _ rfl hown4 (some ⟨wr.heap.size, 0, none⟩) 1 1 (byts [x ^^^ y]) rfl rfl hsx (byts_one _) n1 n2 w1 rfl hHeld ?_; intro v5 w5 hown5 hg5 hb5
      refine hK.out _ _ (hb5) (fun hHeld => ?_)
      clear hK K
      try (first | (rw [put_some]; dsimp only [List.set]) | rw [put_none])
      refine rtake 11 _ (some 8) _ rfl rfl (by kernel_rfl) (by kernel_rfl) (by kernel_rfl) (fun _ _ _ h => h) (by rfl) hHeld (by intro w hS; go_simp; try with_reducible rfl) ?_
      try (first | (rw [put_some]; dsimp only [List.set]) | rw [put_none])
      refine wpAnyH_done (by kernel_rfl) ?_ _
      refine NoPanic.normal ?_
      have e1 : byts F ++ byts [x ^^^ y] = byts (F ++ [x ^^^ y]) := (byts_append _ _).symm
      rw [e1, ← HS.out] at hown5
      clear hown4 hown hsx hb4 hg5 hb
      go_wp2_with fail
      go_roundw
      case rel => exact ⟨k + 1, by omega, by go_num, hown5, hb5⟩
      case measure => simp [intOf]; omega
    · obtain rfl : k = s.length := by omega
      rw [List.take_length, List.take_of_length_le (by omega)] at hown
      have hF : turnL key nonce s = xorWith s X := by rw [HX.out]; rfl
      obtain ⟨A, c, rfl, _, hsl⟩ := Sl.of_own hown
      have hFl : s.length = (xorWith s X).length := (length_xorWith s X hXl.symm).symm
      have hcv := conv_bytes hsl s.length hFl
      have hF := Lib.hid hF
      clear hlt hk hsl hown hslX hXl hFl
      generalize xorWith s X = F at *
      generalize hU : bstr s = U at *
      clear hU
      generalize s.length = n at *
      go_wp2
      go_ret
      exact ⟨by rw [hF.out]; rfl, hbw1.trans (hb.mono hbw1.size)⟩
end Go.Proofs.YtlocgfekgbdlmaaDoor

/- LAYER 7: the document's Seal. -/
namespace Go.Proofs.YtlocgfekgbdlmaaDoor
open Go Go.RowKit

theorem bstr_append (a b : List UInt8) : bstr a ++ bstr b = bstr (a ++ b) := by
  unfold bstr
  apply ByteArray.ext
  rw [ByteArray.data_append]
  simp
set_option maxRecDepth 20000 in
set_option maxHeartbeats 2000000 in
theorem rseal_any (key nonce : List UInt8) (hk : key.length = 32) (hn : nonce.length = 32) (p : List UInt8) (hs : p.length ≤ 500000000) (w : World) :
    Calls Tryd.prog 9 #[.agg (byts key).toArray, .agg (byts nonce).toArray, .string (bstr p)] w fun e w' => e = .returned (.string (bstr (sealL key nonce p))) ∧ Below w.heap.size w w' := by
  obtain ⟨K, hK⟩ : ∃ K, K = byts key := ⟨_, rfl⟩
  have hKl : K.length = 32 := by rw [hK, length_byts]; exact hk
  have hszK := Lib.hid (show (Tryd.prog.info? 23).map (·.size) = some K.toArray.size by rw [size_tag, List.size_toArray, hKl])
  have hszL := Lib.hid (show (Tryd.prog.info? 23).map (·.size) = some K.length by rw [size_tag, hKl])
  obtain ⟨M, hM⟩ : ∃ M, M = byts nonce := ⟨_, rfl⟩
  have HM := Lib.hid hM
  have hMl : M.length = 32 := by rw [hM, length_byts]; exact hn
  have hszM := Lib.hid (show (Tryd.prog.info? 23).map (·.size) = some M.toArray.size by rw [size_tag, List.size_toArray, hMl])
  obtain ⟨C, hC⟩ : ∃ C, C = turnL key nonce p := ⟨_, rfl⟩
  have hCl : C.length = p.length := by rw [hC]; exact length_turnL _ _ _
  have htu := Lib.hid (show ∀ w1, Calls Tryd.prog 16 #[.agg K.toArray, .agg M.toArray, .string (bstr p)] w1 fun e w' => e = .returned (.string (bstr C)) ∧ Below w1.heap.size w1 w' by
    rw [hK, hM, hC]; exact fun w1 => rturn7_any key nonce hk hn p (by omega) w1)
  obtain ⟨O, hO⟩ : ∃ O, O = tagOver key nonce C := ⟨_, rfl⟩
  obtain ⟨V, hV⟩ : ∃ V, V = byts O := ⟨_, rfl⟩
  have hOl : O.length = 32 := by rw [hO]; exact length_tagOver _ _ _
  have hVl : V.length = 32 := by rw [hV, length_byts]; exact hOl
  have hone := Lib.hid (show ∀ v ∈ V, v.oneCell' = true by rw [hV]; exact byts_one _)
  have hszl := Lib.hid (show (Tryd.prog.info? 23).map (·.size) = some V.length by rw [size_tag, hVl])
  have hfit := Lib.hid (show 0 + V.length ≤ (List.replicate 32 (Value.int .u8 0)).length by rw [hVl, List.length_replicate]; decide)
  have HVr := Lib.hid (show splice (List.replicate 32 (Value.int .u8 0)) 0 V = V by
    unfold splice
    rw [List.take_zero, List.nil_append, Nat.zero_add, hVl, List.drop_of_length_le (by rw [List.length_replicate]; exact Nat.le_refl _), List.append_nil])
  have hkey := Lib.hid (show ∀ w1 B d, Sl w1 B d (strsV [nonce, C]) → Calls Tryd.prog 17 #[.agg K.toArray, .string (bstr sealU), .slice B 2 d] w1 fun e w' => e = .returned (.agg V.toArray) ∧ Below w1.heap.size w1 w' by
    rw [hK, hV, hO]
    exact fun w1 B d h => rkey_any key hk sealU B 2 d [nonce, C] w1 h rfl (by show (4 + 1) + ((nonce.length + 1) + ((C.length + 1) + 0)) ≤ _; rw [hCl, hn]; omega))
  have HA := Lib.hid (show bstr nonce ++ bstr C ++ bstr O = bstr (sealL key nonce p) by
    rw [bstr_append, bstr_append, hO, hC]; rfl)
  have HV := Lib.hid hV
  have HN := Lib.hid hn
  have HOl := Lib.hid hOl
  have hc1 := Lib.hid (show ¬ 9223372036854775807 < (bstr nonce).size + (bstr C).size by rw [size_bstr, size_bstr, hn, hCl]; omega)
  have hc2 := Lib.hid (show ¬ 9223372036854775807 < (bstr nonce).size + (bstr C).size + (bstr O).size by rw [size_bstr, size_bstr, size_bstr, hn, hCl, hOl]; omega)
  obtain ⟨r0, r1, hb0, _⟩ := two_rows (w := w) (A := K) (B := M) (tA := 23) (tB := 23) rfl
  have R0 := Lib.hid (show ((w.alloc (.cells K.toArray 23)).alloc (.cells M.toArray 23)).heap[w.heap.size]? = some (.cells K.toArray 23 (0, 0)) from r0)
  have R1 := Lib.hid (show ((w.alloc (.cells K.toArray 23)).alloc (.cells M.toArray 23)).heap[w.heap.size + 1]? = some (.cells M.toArray 23 (0, 0)) from r1)
  rw [← hK, ← hM]
  clear hK hKl hM hMl hk hn hC hCl hV hVl hO hOl
  go_enter Tryd.func9, Tryd.ntmps9
  go_wp2_with (first
    | (with_reducible refine wpList_load_row rfl 23 (.tmp 3) rfl w.heap.size rfl 23 K.toArray (0, 0) (.array 32 5) R0.out Tryd.underlying23 rfl hszK.out ?_)
    | (with_reducible refine wpList_load_row rfl 23 (.tmp 4) rfl (w.heap.size + 1) rfl 23 M.toArray (0, 0) (.array 32 5) R1.out Tryd.underlying23 rfl hszM.out ?_)
    | (go_at_call 16; refine (htu.out _).mono ?_; rintro e w1 ⟨rfl, hb1⟩; have r0 := r0.later hb1 r0.lt; have r1 := r1.later hb1 r1.lt; have hbw1 := hb0.trans (hb1.mono hb0.size); clear hb1 hb0 R0 R1))
  have hcN0 := conv_later (w := w1) (A := some ⟨w.heap.size + 1, 0, none⟩) (c := 32) (l := nonce) ⟨Rd.row (ys := []) (by rw [List.append_nil, ← HM.out]; exact r1), by rw [length_byts, HN.out]; exact Nat.le_refl _, fun h => by cases h⟩ 32 HN.out.symm
  refine wp_region_noPanic ?_
  refine wp_region_held_drew (S := fun w' => Below w1.heap.size w1 w') (by kernel_rfl) ((Below.refl _ _).drew) (fun hHeld => ?_)
  refine rtake 0 _ (some 13) _ rfl rfl (by kernel_rfl) (by kernel_rfl) (by kernel_rfl) (fun _ _ _ h => h) (by rfl) hHeld (by intro w hS; exact run_load_op 23 (.tmp 3) rfl _ 0 rfl K _ (row_range (r0.later hS r0.lt)) Tryd.underlying23 rfl hszL.out) ?_
  try (first | (rw [put_some]; dsimp only [List.set]) | rw [put_none])
  refine rtake 1 _ (some 14) _ rfl rfl (by kernel_rfl) (by kernel_rfl) (by kernel_rfl) (fun _ _ _ h => h) (by rfl) hHeld (by intro w hS; go_simp; try with_reducible rfl) ?_
  try (first | (rw [put_some]; dsimp only [List.set]) | rw [put_none])
  refine rtake 2 _ (some 15) _ rfl rfl (by kernel_rfl) (by kernel_rfl) (by kernel_rfl) (fun _ _ _ h => h) (by rfl) hHeld (by intro w hS; go_simp; try with_reducible rfl) ?_
  try (first | (rw [put_some]; dsimp only [List.set]) | rw [put_none])
  refine rtake 3 _ (some 16) _ rfl rfl (by kernel_rfl) (by kernel_rfl) (by kernel_rfl) (fun _ _ _ h => h) (by rfl) hHeld (by intro w hS; go_simp; try with_reducible rfl) ?_
  try (first | (rw [put_some]; dsimp only [List.set]) | rw [put_none])
  clear hcN0
  refine wpAnyH_ready (rs := [4, 6]) (by kernel_rfl) (by simp) (AllReadyH.cons (o := _) rfl (fun K hK => ?_) (AllReadyH.cons (o := _) rfl (fun K hK => ?_) AllReadyH.nil))
  · refine step_alloc (some 17) rfl (by rfl) (.slice (some ⟨w1.heap.size, 0, none⟩) 2 2) (.cells #[.string (bstr nonce), .string (bstr C)] 9) (by go_simp) ?_; intro w5 hw5 hb5; have hss : Sl w5 (some ⟨w1.heap.size, 0, none⟩) 2 (strsV [nonce, C]) := (by rw [hw5]; exact ⟨Rd.row (ys := []) (by rw [List.append_nil]; exact Row.new w1.drew 9 (strsV [nonce, C])), by rw [length_strsV]; exact Nat.le_refl _, fun h => by cases h⟩); have hq5 := hHeld.trans (hb5.mono hHeld.size); clear hw5
    refine hK.out _ _ (hq5) (fun hHeld => ?_)
    clear hK K
    try (first | (rw [put_some]; dsimp only [List.set]) | rw [put_none])
    refine wpAnyH_ready (rs := [5, 6]) (by kernel_rfl) (by simp) (AllReadyH.cons (o := _) rfl (fun K hK => ?_) (AllReadyH.cons (o := _) rfl (fun K hK => ?_) AllReadyH.nil))
    · go_simp
      refine (hkey.out _ _ _ hss).mono ?_; rintro e w6 ⟨rfl, hb6⟩; have hq6 := hHeld.trans (hb6.mono hHeld.size)
      try go_wp2_with fail
      refine hK.out _ _ (hq6) (fun hHeld => ?_)
      clear hK K
      try (first | (rw [put_some]; dsimp only [List.set]) | rw [put_none])
      refine wpAnyH_ready (rs := [6]) (by kernel_rfl) (by simp) (AllReadyH.cons (o := _) rfl (fun K hK => ?_) AllReadyH.nil)
      refine step_alloc (some 8) rfl (by rfl) (.pointer (some ⟨w6.heap.size, 0, none⟩)) (.cells (List.replicate 32 (.int .u8 0)).toArray 23) (by go_simp; try rfl) ?_; intro w7 hw7 hb7; have r7 : Row w7 w6.heap.size 23 (List.replicate 32 (.int .u8 0)) := (by rw [hw7]; exact Row.new w6 23 (List.replicate 32 (.int .u8 0))); have hq7 := hHeld.trans (hb7.mono hHeld.size); clear hw7
      refine hK.out _ _ (hq7) (fun hHeld => ?_)
      clear hK K
      try (first | (rw [put_some]; dsimp only [List.set]) | rw [put_none])
      refine wpAnyH_ready (rs := [7]) (by kernel_rfl) (by simp) (AllReadyH.cons (o := _) rfl (fun K hK => ?_) AllReadyH.nil)
      have hgA : w1.heap.size ≤ w6.heap.size := hq6.size
      refine step_store_row none rfl (by rfl) 23 (.tmp 8) (.tmp 18) rfl w6.heap.size 0 23 _ V rfl rfl r7 hfit.out hszl.out hone.out ?_; intro w9 r9 hg9; have hq9 := hHeld.grown hg9 hHeld.size (fun k h => by cases h; exact hgA)
      refine hK.out _ _ (hq9) (fun _ => ?_)
      clear hK K
      try (first | (rw [put_some]; dsimp only [List.set]) | rw [put_none])
      refine wpAnyH_done (by kernel_rfl) ?_ _
      refine NoPanic.normal ?_
      rw [HVr.out] at r9
      generalize w6.heap.size = g at r9 ⊢
      clear r7 hss hHeld hg9 hb5 hb6 hb7 hq5 hq6 hq7
      have hslN : Sl w9 (some ⟨w.heap.size + 1, 0, none⟩) 32 (byts nonce) := ⟨Rd.row (ys := []) (by rw [List.append_nil, ← HM.out]; exact r1.later hq9 r1.lt), by rw [length_byts, HN.out]; exact Nat.le_refl _, fun h => by cases h⟩
      have hslO : Sl w9 (some ⟨g, 0, none⟩) 32 (byts O) := ⟨Rd.row (ys := []) (by rw [List.append_nil, ← HV.out]; exact r9), by rw [length_byts, HOl.out]; exact Nat.le_refl _, fun h => by cases h⟩
      have hcN := conv_later hslN 32 HN.out.symm
      have hcO := conv_later hslO 32 HOl.out.symm
      have hb9 := hbw1.trans (hq9.mono hbw1.size)
      clear hslN hslO r9 hq9 r1 r0 hgA
      have hc1 := hc1.out
      have hc2 := hc2.out
      go_wp2_with fail
      refine wp_region_noPanic ?_
      refine wp_region_held_drew (S := fun w' => Below w9.heap.size w9 w') (by kernel_rfl) ((Below.refl _ _).drew) (fun hHeld => ?_)
      refine rtake 0 _ (some 19) _ rfl rfl (by kernel_rfl) (by kernel_rfl) (by kernel_rfl) (fun _ _ _ h => h) (by rfl) hHeld (by intro w hS; go_simp; try with_reducible rfl) ?_
      try (first | (rw [put_some]; dsimp only [List.set]) | rw [put_none])
      refine rtake 1 _ (some 20) _ rfl rfl (by kernel_rfl) (by kernel_rfl) (by kernel_rfl) (fun _ _ _ h => h) (by rfl) hHeld (by intro w hS; go_simp; try with_reducible rfl) ?_
      try (first | (rw [put_some]; dsimp only [List.set]) | rw [put_none])
      refine rtake 2 _ (some 21) _ rfl rfl (by kernel_rfl) (by kernel_rfl) (by kernel_rfl) (fun _ _ _ h => h) (by rfl) hHeld (by intro w hS; go_simp; try with_reducible rfl) ?_
      try (first | (rw [put_some]; dsimp only [List.set]) | rw [put_none])
      refine rtake 3 _ (some 22) _ rfl rfl (by kernel_rfl) (by kernel_rfl) (by kernel_rfl) (fun _ _ _ h => h) (by rfl) hHeld (by intro w hS; go_simp; try with_reducible rfl) ?_
      try (first | (rw [put_some]; dsimp only [List.set]) | rw [put_none])
      refine rtake 4 _ (some 23) _ rfl rfl (by kernel_rfl) (by kernel_rfl) (by kernel_rfl) (fun _ _ _ h => h) (by rfl) hHeld (by intro w hS; go_simp; try with_reducible rfl) ?_
      try (first | (rw [put_some]; dsimp only [List.set]) | rw [put_none])
      refine rtake 5 _ (some 24) _ rfl rfl (by kernel_rfl) (by kernel_rfl) (by kernel_rfl) (fun _ _ _ h => h) (by rfl) hHeld (by intro w hS; go_simp; try with_reducible rfl) ?_
      try (first | (rw [put_some]; dsimp only [List.set]) | rw [put_none])
      refine rtake 6 _ (some 25) _ rfl rfl (by kernel_rfl) (by kernel_rfl) (by kernel_rfl) (fun _ _ _ h => h) (by rfl) hHeld (by intro w hS; go_simp; try with_reducible rfl) ?_
      try (first | (rw [put_some]; dsimp only [List.set]) | rw [put_none])
      refine rtake 7 _ (some 6) _ rfl rfl (by kernel_rfl) (by kernel_rfl) (by kernel_rfl) (fun _ _ _ h => h) (by rfl) hHeld (by intro w hS; go_simp; try with_reducible rfl) ?_
      try (first | (rw [put_some]; dsimp only [List.set]) | rw [put_none])
      refine wpAnyH_done (by kernel_rfl) ?_ _
      refine NoPanic.normal ?_
      clear hcN hcO hHeld
      go_wp2
      go_ret
      exact ⟨by show Ending.returned (.string (bstr nonce ++ bstr C ++ bstr O)) = _; rw [HA.out], hb9.drew⟩
    · refine step_alloc (some 8) rfl (by rfl) (.pointer (some ⟨w5.heap.size, 0, none⟩)) (.cells (List.replicate 32 (.int .u8 0)).toArray 23) (by go_simp; try rfl) ?_; intro w7 hw7 hb7; have r7 : Row w7 w5.heap.size 23 (List.replicate 32 (.int .u8 0)) := (by rw [hw7]; exact Row.new w5 23 (List.replicate 32 (.int .u8 0))); have hq7 := hHeld.trans (hb7.mono hHeld.size); clear hw7
      refine hK.out _ _ (hq7) (fun hHeld => ?_)
      clear hK K
      try (first | (rw [put_some]; dsimp only [List.set]) | rw [put_none])
      have hss := hss.later (Nat.le_refl _) hb7
      refine wpAnyH_ready (rs := [5]) (by kernel_rfl) (by simp) (AllReadyH.cons (o := _) rfl (fun K hK => ?_) AllReadyH.nil)
      go_simp
      refine (hkey.out _ _ _ hss).mono ?_; rintro e w6 ⟨rfl, hb6⟩; have hq6 := hHeld.trans (hb6.mono hHeld.size); have r7 := r7.later hb6 r7.lt
      try go_wp2_with fail
      refine hK.out _ _ (hq6) (fun hHeld => ?_)
      clear hK K
      try (first | (rw [put_some]; dsimp only [List.set]) | rw [put_none])
      refine wpAnyH_ready (rs := [7]) (by kernel_rfl) (by simp) (AllReadyH.cons (o := _) rfl (fun K hK => ?_) AllReadyH.nil)
      have hgA : w1.heap.size ≤ w5.heap.size := hq5.size
      refine step_store_row none rfl (by rfl) 23 (.tmp 8) (.tmp 18) rfl w5.heap.size 0 23 _ V rfl rfl r7 hfit.out hszl.out hone.out ?_; intro w9 r9 hg9; have hq9 := hHeld.grown hg9 hHeld.size (fun k h => by cases h; exact hgA)
      refine hK.out _ _ (hq9) (fun _ => ?_)
      clear hK K
      try (first | (rw [put_some]; dsimp only [List.set]) | rw [put_none])
      refine wpAnyH_done (by kernel_rfl) ?_ _
      refine NoPanic.normal ?_
      rw [HVr.out] at r9
      generalize w5.heap.size = g at r9 ⊢
      clear r7 hss hHeld hg9 hb5 hb6 hb7 hq5 hq6 hq7
      have hslN : Sl w9 (some ⟨w.heap.size + 1, 0, none⟩) 32 (byts nonce) := ⟨Rd.row (ys := []) (by rw [List.append_nil, ← HM.out]; exact r1.later hq9 r1.lt), by rw [length_byts, HN.out]; exact Nat.le_refl _, fun h => by cases h⟩
      have hslO : Sl w9 (some ⟨g, 0, none⟩) 32 (byts O) := ⟨Rd.row (ys := []) (by rw [List.append_nil, ← HV.out]; exact r9), by rw [length_byts, HOl.out]; exact Nat.le_refl _, fun h => by cases h⟩
      have hcN := conv_later hslN 32 HN.out.symm
      have hcO := conv_later hslO 32 HOl.out.symm
      have hb9 := hbw1.trans (hq9.mono hbw1.size)
      clear hslN hslO r9 hq9 r1 r0 hgA
      have hc1 := hc1.out
      have hc2 := hc2.out
      go_wp2_with fail
      refine wp_region_noPanic ?_
      refine wp_region_held_drew (S := fun w' => Below w9.heap.size w9 w') (by kernel_rfl) ((Below.refl _ _).drew) (fun hHeld => ?_)
      refine rtake 0 _ (some 19) _ rfl rfl (by kernel_rfl) (by kernel_rfl) (by kernel_rfl) (fun _ _ _ h => h) (by rfl) hHeld (by intro w hS; go_simp; try with_reducible rfl) ?_
      try (first | (rw [put_some]; dsimp only [List.set]) | rw [put_none])
      refine rtake 1 _ (some 20) _ rfl rfl (by kernel_rfl) (by kernel_rfl) (by kernel_rfl) (fun _ _ _ h => h) (by rfl) hHeld (by intro w hS; go_simp; try with_reducible rfl) ?_
      try (first | (rw [put_some]; dsimp only [List.set]) | rw [put_none])
      refine rtake 2 _ (some 21) _ rfl rfl (by kernel_rfl) (by kernel_rfl) (by kernel_rfl) (fun _ _ _ h => h) (by rfl) hHeld (by intro w hS; go_simp; try with_reducible rfl) ?_
      try (first | (rw [put_some]; dsimp only [List.set]) | rw [put_none])
      refine rtake 3 _ (some 22) _ rfl rfl (by kernel_rfl) (by kernel_rfl) (by kernel_rfl) (fun _ _ _ h => h) (by rfl) hHeld (by intro w hS; go_simp; try with_reducible rfl) ?_
      try (first | (rw [put_some]; dsimp only [List.set]) | rw [put_none])
      refine rtake 4 _ (some 23) _ rfl rfl (by kernel_rfl) (by kernel_rfl) (by kernel_rfl) (fun _ _ _ h => h) (by rfl) hHeld (by intro w hS; go_simp; try with_reducible rfl) ?_
      try (first | (rw [put_some]; dsimp only [List.set]) | rw [put_none])
      refine rtake 5 _ (some 24) _ rfl rfl (by kernel_rfl) (by kernel_rfl) (by kernel_rfl) (fun _ _ _ h => h) (by rfl) hHeld (by intro w hS; go_simp; try with_reducible rfl) ?_
      try (first | (rw [put_some]; dsimp only [List.set]) | rw [put_none])
      refine rtake 6 _ (some 25) _ rfl rfl (by kernel_rfl) (by kernel_rfl) (by kernel_rfl) (fun _ _ _ h => h) (by rfl) hHeld (by intro w hS; go_simp; try with_reducible rfl) ?_
      try (first | (rw [put_some]; dsimp only [List.set]) | rw [put_none])
      refine rtake 7 _ (some 6) _ rfl rfl (by kernel_rfl) (by kernel_rfl) (by kernel_rfl) (fun _ _ _ h => h) (by rfl) hHeld (by intro w hS; go_simp; try with_reducible rfl) ?_
      try (first | (rw [put_some]; dsimp only [List.set]) | rw [put_none])
      refine wpAnyH_done (by kernel_rfl) ?_ _
      refine NoPanic.normal ?_
      clear hcN hcO hHeld
      go_wp2
      go_ret
      exact ⟨by show Ending.returned (.string (bstr nonce ++ bstr C ++ bstr O)) = _; rw [HA.out], hb9.drew⟩
  · refine step_alloc (some 8) rfl (by rfl) (.pointer (some ⟨w1.heap.size, 0, none⟩)) (.cells (List.replicate 32 (.int .u8 0)).toArray 23) (by go_simp; try rfl) ?_; intro w7 hw7 hb7; have r7 : Row w7 w1.heap.size 23 (List.replicate 32 (.int .u8 0)) := (by rw [hw7]; exact Row.new w1.drew 23 (List.replicate 32 (.int .u8 0))); have hq7 := hHeld.trans (hb7.mono hHeld.size); clear hw7
    refine hK.out _ _ (hq7) (fun hHeld => ?_)
    clear hK K
    try (first | (rw [put_some]; dsimp only [List.set]) | rw [put_none])
    refine wpAnyH_ready (rs := [4]) (by kernel_rfl) (by simp) (AllReadyH.cons (o := _) rfl (fun K hK => ?_) AllReadyH.nil)
    refine step_alloc (some 17) rfl (by rfl) (.slice (some ⟨w7.heap.size, 0, none⟩) 2 2) (.cells #[.string (bstr nonce), .string (bstr C)] 9) (by go_simp) ?_; intro w5 hw5 hb5; have hss : Sl w5 (some ⟨w7.heap.size, 0, none⟩) 2 (strsV [nonce, C]) := (by rw [hw5]; exact ⟨Rd.row (ys := []) (by rw [List.append_nil]; exact Row.new w7 9 (strsV [nonce, C])), by rw [length_strsV]; exact Nat.le_refl _, fun h => by cases h⟩); have hq5 := hHeld.trans (hb5.mono hHeld.size); clear hw5
    refine hK.out _ _ (hq5) (fun hHeld => ?_)
    clear hK K
    try (first | (rw [put_some]; dsimp only [List.set]) | rw [put_none])
    have r7 := r7.later hb5 r7.lt
    refine wpAnyH_ready (rs := [5]) (by kernel_rfl) (by simp) (AllReadyH.cons (o := _) rfl (fun K hK => ?_) AllReadyH.nil)
    go_simp
    refine (hkey.out _ _ _ hss).mono ?_; rintro e w6 ⟨rfl, hb6⟩; have hq6 := hHeld.trans (hb6.mono hHeld.size); have r7 := r7.later hb6 r7.lt
    try go_wp2_with fail
    refine hK.out _ _ (hq6) (fun hHeld => ?_)
    clear hK K
    try (first | (rw [put_some]; dsimp only [List.set]) | rw [put_none])
    refine wpAnyH_ready (rs := [7]) (by kernel_rfl) (by simp) (AllReadyH.cons (o := _) rfl (fun K hK => ?_) AllReadyH.nil)
    have hgA : w1.heap.size ≤ w1.heap.size := Nat.le_refl _
    refine step_store_row none rfl (by rfl) 23 (.tmp 8) (.tmp 18) rfl w1.heap.size 0 23 _ V rfl rfl r7 hfit.out hszl.out hone.out ?_; intro w9 r9 hg9; have hq9 := hHeld.grown hg9 hHeld.size (fun k h => by cases h; exact hgA)
    refine hK.out _ _ (hq9) (fun _ => ?_)
    clear hK K
    try (first | (rw [put_some]; dsimp only [List.set]) | rw [put_none])
    refine wpAnyH_done (by kernel_rfl) ?_ _
    refine NoPanic.normal ?_
    rw [HVr.out] at r9
    generalize w1.heap.size = g at r9 ⊢
    clear r7 hss hHeld hg9 hb5 hb6 hb7 hq5 hq6 hq7
    have hslN : Sl w9 (some ⟨w.heap.size + 1, 0, none⟩) 32 (byts nonce) := ⟨Rd.row (ys := []) (by rw [List.append_nil, ← HM.out]; exact r1.later hq9 r1.lt), by rw [length_byts, HN.out]; exact Nat.le_refl _, fun h => by cases h⟩
    have hslO : Sl w9 (some ⟨g, 0, none⟩) 32 (byts O) := ⟨Rd.row (ys := []) (by rw [List.append_nil, ← HV.out]; exact r9), by rw [length_byts, HOl.out]; exact Nat.le_refl _, fun h => by cases h⟩
    have hcN := conv_later hslN 32 HN.out.symm
    have hcO := conv_later hslO 32 HOl.out.symm
    have hb9 := hbw1.trans (hq9.mono hbw1.size)
    clear hslN hslO r9 hq9 r1 r0 hgA
    have hc1 := hc1.out
    have hc2 := hc2.out
    go_wp2_with fail
    refine wp_region_noPanic ?_
    refine wp_region_held_drew (S := fun w' => Below w9.heap.size w9 w') (by kernel_rfl) ((Below.refl _ _).drew) (fun hHeld => ?_)
    refine rtake 0 _ (some 19) _ rfl rfl (by kernel_rfl) (by kernel_rfl) (by kernel_rfl) (fun _ _ _ h => h) (by rfl) hHeld (by intro w hS; go_simp; try with_reducible rfl) ?_
    try (first | (rw [put_some]; dsimp only [List.set]) | rw [put_none])
    refine rtake 1 _ (some 20) _ rfl rfl (by kernel_rfl) (by kernel_rfl) (by kernel_rfl) (fun _ _ _ h => h) (by rfl) hHeld (by intro w hS; go_simp; try with_reducible rfl) ?_
    try (first | (rw [put_some]; dsimp only [List.set]) | rw [put_none])
    refine rtake 2 _ (some 21) _ rfl rfl (by kernel_rfl) (by kernel_rfl) (by kernel_rfl) (fun _ _ _ h => h) (by rfl) hHeld (by intro w hS; go_simp; try with_reducible rfl) ?_
    try (first | (rw [put_some]; dsimp only [List.set]) | rw [put_none])
    refine rtake 3 _ (some 22) _ rfl rfl (by kernel_rfl) (by kernel_rfl) (by kernel_rfl) (fun _ _ _ h => h) (by rfl) hHeld (by intro w hS; go_simp; try with_reducible rfl) ?_
    try (first | (rw [put_some]; dsimp only [List.set]) | rw [put_none])
    refine rtake 4 _ (some 23) _ rfl rfl (by kernel_rfl) (by kernel_rfl) (by kernel_rfl) (fun _ _ _ h => h) (by rfl) hHeld (by intro w hS; go_simp; try with_reducible rfl) ?_
    try (first | (rw [put_some]; dsimp only [List.set]) | rw [put_none])
    refine rtake 5 _ (some 24) _ rfl rfl (by kernel_rfl) (by kernel_rfl) (by kernel_rfl) (fun _ _ _ h => h) (by rfl) hHeld (by intro w hS; go_simp; try with_reducible rfl) ?_
    try (first | (rw [put_some]; dsimp only [List.set]) | rw [put_none])
    refine rtake 6 _ (some 25) _ rfl rfl (by kernel_rfl) (by kernel_rfl) (by kernel_rfl) (fun _ _ _ h => h) (by rfl) hHeld (by intro w hS; go_simp; try with_reducible rfl) ?_
    try (first | (rw [put_some]; dsimp only [List.set]) | rw [put_none])
    refine rtake 7 _ (some 6) _ rfl rfl (by kernel_rfl) (by kernel_rfl) (by kernel_rfl) (fun _ _ _ h => h) (by rfl) hHeld (by intro w hS; go_simp; try with_reducible rfl) ?_
    try (first | (rw [put_some]; dsimp only [List.set]) | rw [put_none])
    refine wpAnyH_done (by kernel_rfl) ?_ _
    refine NoPanic.normal ?_
    clear hcN hcO hHeld
    go_wp2
    go_ret
    exact ⟨by show Ending.returned (.string (bstr nonce ++ bstr C ++ bstr O)) = _; rw [HA.out], hb9.drew⟩
end Go.Proofs.YtlocgfekgbdlmaaDoor

/- LAYER 7: the document's Open. -/
namespace Go.Proofs.YtlocgfekgbdlmaaDoor
open Go Go.RowKit

theorem extract_bstr (l : List UInt8) (i j : Nat) : (bstr l).extract i j = bstr ((l.drop i).take (j - i)) := ByteArray.extract_mk l i j
def openV (r : List UInt8 × Bool) : Value := .tuple #[.string (bstr r.1), .bool r.2]
set_option maxRecDepth 20000 in
set_option maxHeartbeats 2000000 in
theorem ropen_any (key : List UInt8) (hk : key.length = 32) (s : List UInt8) (hs : s.length ≤ 500000000) (w : World) :
    Calls Tryd.prog 7 #[.agg (byts key).toArray, .string (bstr s)] w fun e w' => e = .returned (openV (openL key s)) ∧ Below w.heap.size w w' := by
  have hz := size_bstr s
  have hb0 := (Below.refl w.heap.size w).alloc (Nat.le_refl _) (.cells (byts key).toArray 23)
  by_cases h64 : s.length < 64
  · have hL := Lib.hid (show openL key s = ([], false) by unfold openL; rw [if_pos h64])
    have h64' : (bstr s).size < 64 := by rw [hz]; exact h64
    clear h64 hz hs
    generalize bstr s = U at *
    generalize (byts key).toArray = KK at *
    go_enter Tryd.func7, Tryd.ntmps7
    go_wp2
    go_ret2
    exact ⟨by rw [hL.out]; rfl, hb0⟩
  obtain ⟨K, hK⟩ : ∃ K, K = byts key := ⟨_, rfl⟩
  have hKl : K.length = 32 := by rw [hK, length_byts]; exact hk
  have hszK := Lib.hid (show (Tryd.prog.info? 23).map (·.size) = some K.toArray.size by rw [size_tag, List.size_toArray, hKl])
  have hszL := Lib.hid (show (Tryd.prog.info? 23).map (·.size) = some K.length by rw [size_tag, hKl])
  obtain ⟨N, hN⟩ : ∃ N, N = s.take 32 := ⟨_, rfl⟩
  have hNl : N.length = 32 := by rw [hN, List.length_take]; omega
  obtain ⟨M, hM⟩ : ∃ M, M = byts N := ⟨_, rfl⟩
  have hMl : M.length = 32 := by rw [hM, length_byts]; exact hNl
  have hszM := Lib.hid (show (Tryd.prog.info? 23).map (·.size) = some M.toArray.size by rw [size_tag, List.size_toArray, hMl])
  have hszML := Lib.hid (show (Tryd.prog.info? 23).map (·.size) = some M.length by rw [size_tag, hMl])
  have h32 := Lib.hid (show 32 = M.toArray.size by rw [List.size_toArray, hMl])
  have hone := Lib.hid (all_one (show ∀ v ∈ M, v.oneCell' = true by rw [hM]; exact byts_one _))
  obtain ⟨C, hC⟩ : ∃ C, C = midL s := ⟨_, rfl⟩
  have hCl : C.length = s.length - 64 := by rw [hC]; exact length_midL s (by omega)
  obtain ⟨P, hP⟩ : ∃ P, P = turnL key N C := ⟨_, rfl⟩
  have hPl : P.length = s.length - 64 := by rw [hP, length_turnL]; exact hCl
  have htu := Lib.hid (show ∀ w1, Calls Tryd.prog 16 #[.agg K.toArray, .agg M.toArray, .string (bstr C)] w1 fun e w' => e = .returned (.string (bstr P)) ∧ Below w1.heap.size w1 w' by
    rw [hK, hM, hP]; exact fun w1 => rturn7_any key N hk hNl C (by omega) w1)
  have hse := Lib.hid (show ∀ w1, Calls Tryd.prog 9 #[.agg K.toArray, .agg M.toArray, .string (bstr P)] w1 fun e w' => e = .returned (.string (bstr (sealL key N P))) ∧ Below w1.heap.size w1 w' by
    rw [hK, hM]; exact fun w1 => rseal_any key N hk hNl P (by omega) w1)
  have htg := Lib.hid (show ∀ w1 A c, Sl w1 A c (byts N) → Calls Tryd.prog 15 #[.slice A 32 c] w1 fun e w' => e = .returned (.agg M.toArray) ∧ Below w1.heap.size w1 w' by
    rw [hM]; exact fun w1 A c h => rtag5_any A 32 c N w1 h hNl.symm hNl)
  have hL := Lib.hid (show openL key s = if sealL key N P = s then (P, true) else ([], false) by
    unfold openL
    rw [if_neg h64, ← hN, ← hC, ← hP])
  have hx1 : (bstr s).extract 0 32 = bstr N := by rw [extract_bstr, hN]; rfl
  have hx2 : (bstr s).extract 32 ((bstr s).size - 32) = bstr C := by rw [extract_bstr, hz, hC]; unfold midL; rw [show s.length - 32 - 32 = s.length - 64 by omega]
  have h64' : 64 ≤ (bstr s).size := by rw [hz]; omega
  obtain ⟨m, hm⟩ : ∃ m, m = (bstr s).size - 32 := ⟨_, rfl⟩
  rw [← hm] at hx2
  have hm0 : IntKind.i64.wrap (((bstr s).size : Int) - 32) = (m : Int) := by rw [hm, IntKind.wrap_i64]; omega
  have hm1 : (m : Int) ≤ ((bstr s).size : Int) := by omega
  have hm2 : (32 : Int) ≤ (m : Int) := by omega
  clear hm
  have hNl := Lib.hid hNl
  have hzN := size_bstr N
  rw [hNl.out] at hzN
  have r0 := Row.new w 23 K
  rw [← hK] at hb0 ⊢
  have HE := Lib.hid (bstr_beq (sealL key N P) s)
  clear hK hKl hMl hM hN hCl hC hPl hP hk h64 hs hz
  generalize hU : bstr s = U at *
  have hU := Lib.hid hU
  go_enter Tryd.func7, Tryd.ntmps7
  go_wp2_with (first
    | (refine wpList_conv_string rfl (.tmp 12) rfl N rfl ?_; intro A1 c1 w1 hsl1 hb1; rw [hNl.out]; have r0 := r0.later hb1 r0.lt; have hbw1 := hb0.trans (hb1.mono hb0.size); clear hb0 hb1)
    | (go_at_call 15; refine (htg.out _ _ _ hsl1).mono ?_; rintro e w3 ⟨rfl, hb3⟩; have r0 := r0.later hb3 r0.lt; have hbw3 := hbw1.trans (hb3.mono hbw1.size); clear hb3 hsl1)
    | (with_reducible refine wpList_store_row rfl 23 (.tmp 6) (.tmp 14) rfl w3.heap.size M.toArray rfl rfl 23 _ (heap_alloc_new w3 _) hszM.out (Eq.trans (by kernel_rfl) h32.out) hone.out ?_; refine Hid.out ?_))
  refine Lib.hid ?_
  generalize hw6 : World.setRow _ _ _ = w6
  obtain ⟨r6, hb6⟩ := row_new_set (xs := M) hw6
  have r0 := r0.later hb6 r0.lt
  have hbw6 := hbw3.trans (hb6.mono hbw3.size)
  clear hw6 hb6
  generalize w3.heap.size = g at *
  go_wp2_with fail
  refine wp_region_noPanic ?_
  refine wp_region_held_drew (S := fun w' => Below w6.heap.size w6 w') (by kernel_rfl) ((Below.refl _ _).drew) (fun hHeld => ?_)
  refine rtake 0 _ (some 15) _ rfl rfl (by kernel_rfl) (by kernel_rfl) (by kernel_rfl) (fun _ _ _ h => h) (by rfl) hHeld (by intro w hS; exact run_load_op 23 (.tmp 2) rfl _ 0 rfl K _ (row_range (r0.later hS r0.lt)) Tryd.underlying23 rfl hszL.out) ?_
  try (first | (rw [put_some]; dsimp only [List.set]) | rw [put_none])
  refine rtake 1 _ (some 16) _ rfl rfl (by kernel_rfl) (by kernel_rfl) (by kernel_rfl) (fun _ _ _ h => h) (by rfl) hHeld (by intro w hS; exact run_load_op 23 (.tmp 6) rfl _ 0 rfl M _ (row_range (r6.later hS r6.lt)) Tryd.underlying23 rfl hszML.out) ?_
  try (first | (rw [put_some]; dsimp only [List.set]) | rw [put_none])
  refine rtake 2 _ (some 17) _ rfl rfl (by kernel_rfl) (by kernel_rfl) (by kernel_rfl) (fun _ _ _ h => h) (by rfl) hHeld (by intro w hS; go_simp; try with_reducible rfl) ?_
  try (first | (rw [put_some]; dsimp only [List.set]) | rw [put_none])
  refine rtake 3 _ (some 18) _ rfl rfl (by kernel_rfl) (by kernel_rfl) (by kernel_rfl) (fun _ _ _ h => h) (by rfl) hHeld (by intro w hS; go_simp; try with_reducible rfl) ?_
  try (first | (rw [put_some]; dsimp only [List.set]) | rw [put_none])
  refine rtake 4 _ (some 19) _ rfl rfl (by kernel_rfl) (by kernel_rfl) (by kernel_rfl) (fun _ _ _ h => h) (by rfl) hHeld (by intro w hS; go_simp; try with_reducible rfl) ?_
  try (first | (rw [put_some]; dsimp only [List.set]) | rw [put_none])
  refine rtake 5 _ (some 20) _ rfl rfl (by kernel_rfl) (by kernel_rfl) (by kernel_rfl) (fun _ _ _ h => h) (by rfl) hHeld (by intro w hS; go_simp; try with_reducible rfl) ?_
  try (first | (rw [put_some]; dsimp only [List.set]) | rw [put_none])
  refine rtake 6 _ (some 21) _ rfl rfl (by kernel_rfl) (by kernel_rfl) (by kernel_rfl) (fun _ _ _ h => h) (by rfl) hHeld (by intro w hS; go_simp; try with_reducible rfl) ?_
  try (first | (rw [put_some]; dsimp only [List.set]) | rw [put_none])
  refine wpAnyH_ready (rs := [7]) (by kernel_rfl) (by simp) (AllReadyH.cons (o := _) rfl (fun K hK => ?_) AllReadyH.nil)
  go_simp
  refine (htu.out _).mono ?_; rintro e w8 ⟨rfl, hb8⟩; have hq8 := hHeld.trans (hb8.mono hHeld.size)
  try go_wp2_with fail
  refine hK.out _ _ (hq8) (fun hHeld => ?_)
  clear hK K
  try (first | (rw [put_some]; dsimp only [List.set]) | rw [put_none])
  refine rtake 8 _ (some 7) _ rfl rfl (by kernel_rfl) (by kernel_rfl) (by kernel_rfl) (fun _ _ _ h => h) (by rfl) hHeld (by intro w hS; go_simp; try with_reducible rfl) ?_
  try (first | (rw [put_some]; dsimp only [List.set]) | rw [put_none])
  refine wpAnyH_done (by kernel_rfl) ?_ _
  refine NoPanic.normal ?_
  clear hHeld
  have hb8 := hbw6.trans (hq8.mono hbw6.size)
  have R0 := Lib.hid (show w8.heap[w.heap.size]? = some (.cells K.toArray 23 (0, 0)) from r0.later hq8 r0.lt)
  have R6 := Lib.hid (show w8.heap[g]? = some (.cells M.toArray 23 (0, 0)) from r6.later hq8 r6.lt)
  clear r0 r6 hq8 hbw6 hbw3 hbw1
  by_cases hEq : sealL key N P = s
  · have hB : ((bstr (sealL key N P)).toList == U.toList) = true := by rw [HE.out]; exact decide_eq_true hEq
    have hL := Lib.hid (hL.out.trans (if_pos hEq))
    go_wp2_with (first
      | (with_reducible refine wpList_load_row rfl 23 (.tmp 2) rfl w.heap.size rfl 23 K.toArray (0, 0) (.array 32 5) R0.out Tryd.underlying23 rfl hszK.out ?_)
      | (with_reducible refine wpList_load_row rfl 23 (.tmp 6) rfl g rfl 23 M.toArray (0, 0) (.array 32 5) R6.out Tryd.underlying23 rfl hszM.out ?_)
      | (go_at_call 9; refine (hse.out _).mono ?_; rintro e w9 ⟨rfl, hb9⟩; have hb89 := hb8.trans (hb9.mono hb8.size)))
    go_ret2
    exact ⟨by rw [hL.out]; rfl, hb89⟩
  · have hB : ((bstr (sealL key N P)).toList == U.toList) = false := by rw [HE.out]; exact decide_eq_false hEq
    have hL := Lib.hid (hL.out.trans (if_neg hEq))
    go_wp2_with (first
      | (with_reducible refine wpList_load_row rfl 23 (.tmp 2) rfl w.heap.size rfl 23 K.toArray (0, 0) (.array 32 5) R0.out Tryd.underlying23 rfl hszK.out ?_)
      | (with_reducible refine wpList_load_row rfl 23 (.tmp 6) rfl g rfl 23 M.toArray (0, 0) (.array 32 5) R6.out Tryd.underlying23 rfl hszM.out ?_)
      | (go_at_call 9; refine (hse.out _).mono ?_; rintro e w9 ⟨rfl, hb9⟩; have hb89 := hb8.trans (hb9.mono hb8.size)))
    go_ret2
    exact ⟨by rw [hL.out]; rfl, hb89⟩
end Go.Proofs.YtlocgfekgbdlmaaDoor
