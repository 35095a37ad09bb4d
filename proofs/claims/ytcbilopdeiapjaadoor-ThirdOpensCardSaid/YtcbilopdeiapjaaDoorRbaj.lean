/- Texts of this claim, one behind the other. -/
import Derived.Test.YtcbilopdeiapjaaDoorRbag
import Derived.Test.YtcbilopdeiapjaaDoorRbai
import Derived.Deep.OwnRows
import Derived.Test.YtcbilopdeiapjaaDoorRbah
import Derived.Test.YtcbilopdeiapjaaDoorRbac
/- LAYER 7: package seal's turn: a row of bytes is turned in place. -/
namespace Go.Proofs.YtcbilopdeiapjaaDoor
set_option maxRecDepth 100000
open Go Go.RowKit

/-- Block g is a row that holds just xs, whatever of it a string shares. -/
def Rowf (w : World) (g : Nat) (t : TypeId) (fr : Nat × Nat) (xs : List Value) : Prop := w.heap[g]? = some (.cells xs.toArray t fr)
theorem Rowf.lt {w : World} {g t : Nat} {fr : Nat × Nat} {xs : List Value} (h : Rowf w g t fr xs) : g < w.heap.size := by
  unfold Rowf at h
  exact (Array.getElem?_eq_some_iff.1 h).1
theorem Rowf.cell {w : World} {g t : Nat} {fr : Nat × Nat} {xs : List Value} (h : Rowf w g t fr xs) (i : Nat) : w.cell? ⟨g, i, none⟩ = xs[i]? := by
  rw [cell_of_row w g i _ t fr h]; simp
theorem Rowf.free {w : World} {g t : Nat} {fr : Nat × Nat} {xs : List Value} (h : Rowf w g t fr xs) (i : Nat) (hi : fr.2 ≤ fr.1 ∨ i < fr.1) : w.frozen? ⟨g, i, none⟩ = false := by
  unfold Rowf at h
  simp only [World.frozen?, h]
  rw [Bool.and_eq_false_iff]
  rcases Nat.lt_or_ge i fr.1 with h1 | h1
  · exact .inl (decide_eq_false (by omega))
  · exact .inr (decide_eq_false (by omega))
theorem Rowf.set {w : World} {g t : Nat} {fr : Nat × Nat} {xs : List Value} (h : Rowf w g t fr xs) (i : Nat) (v : Value) : Rowf (w.setCell ⟨g, i, none⟩ v) g t fr (xs.set i v) := by
  unfold Rowf at h ⊢
  rw [show (xs.set i v).toArray = xs.toArray.setIfInBounds i v by simp]
  simp [World.setCell, Array.getElem?_modify, h]
theorem Rowf.drew {w : World} {g t : Nat} {fr : Nat × Nat} {xs : List Value} (h : Rowf w g t fr xs) : Rowf w.drew g t fr xs := h
theorem Rowf.later {w w' : World} {g t : Nat} {fr : Nat × Nat} {xs : List Value} {B : Nat} (h : Rowf w g t fr xs) (hb : Below B w w') (hg : g < B) : Rowf w' g t fr xs := by
  unfold Rowf at h ⊢
  rw [hb.block g hg]; exact h
theorem Rowf.grown {w w' : World} {g k t : Nat} {fr : Nat × Nat} {xs : List Value} (h : Rowf w g t fr xs) (hg : w.grownBy w' (some k)) (hne : g ≠ k) : Rowf w' g t fr xs := by
  have hl := h.lt
  unfold Rowf at h ⊢
  rw [hg.block g hl (fun e => hne (Option.some.inj e))]; exact h
theorem Rd.rowf {w : World} {g t : Nat} {fr : Nat × Nat} {xs ys : List Value} (h : Rowf w g t fr (xs ++ ys)) : Rd w (some ⟨g, 0, none⟩) xs :=
  .inr ⟨g, 0, rfl, h.lt, fun i hi => by rw [Nat.zero_add, h.cell, List.getElem?_append_left hi]⟩
theorem turn_succ (a b : List UInt8) (k : Nat) (ha : k < a.length) (hb : k < b.length) : (xorWith (a.take k) (b.take k) ++ a.drop k).set k (a.getD k 0 ^^^ b.getD k 0) = xorWith (a.take (k + 1)) (b.take (k + 1)) ++ a.drop (k + 1) := by
  have hl : (xorWith (a.take k) (b.take k)).length = k := by rw [length_xorWith _ _ (by rw [List.length_take, List.length_take]; omega), List.length_take]; omega
  rw [xorWith_succ a b k ha hb, List.set_append_right _ _ (by omega), hl, Nat.sub_self, List.drop_eq_getElem_cons ha, List.set_cons_zero, List.append_assoc]
  rfl
theorem turn_at (a b : List UInt8) (k : Nat) (ha : k < a.length) (hb : k < b.length) : (xorWith (a.take k) (b.take k) ++ a.drop k).getD k 0 = a.getD k 0 := by
  have hl : (xorWith (a.take k) (b.take k)).length = k := by rw [length_xorWith _ _ (by rw [List.length_take, List.length_take]; omega), List.length_take]; omega
  rw [List.getD_eq_getElem?_getD, List.getElem?_append_right (by omega), hl, Nat.sub_self, List.getElem?_drop, Nat.add_zero, List.getD_eq_getElem?_getD]
theorem turn_len (a b : List UInt8) (k : Nat) (ha : k ≤ a.length) (hb : k ≤ b.length) : (xorWith (a.take k) (b.take k) ++ a.drop k).length = a.length := by
  rw [List.length_append, length_xorWith _ _ (by rw [List.length_take, List.length_take]; omega), List.length_take, List.length_drop]; omega
/-- What turns a block made since, turns none of those ahead. -/
theorem grown_past {a b c : World} {row : Option Nat} {t : Nat} (h : a.grownBy b row) (k : b.grownBy c (some t)) (ht : a.heap.size ≤ t) : a.grownBy c row :=
  ⟨k.os.trans h.os, k.tape.trans h.tape, k.output.trans h.output, Nat.le_trans h.size k.size, fun i hi hne => (k.block i (Nat.lt_of_lt_of_le hi h.size) (fun e => by cases e; omega)).trans (h.block i hi hne)⟩
set_option maxRecDepth 100000 in
set_option maxHeartbeats 2000000 in
theorem dturn_any (key nonce : List UInt8) (hk : key.length = 32) (hn : nonce.length = 32) (l : List UInt8) (hm : l.length < 9223372036854775808) (ys : List Value) (g n c : Nat) (fr : Nat × Nat) (hfr : fr.2 ≤ fr.1 ∨ l.length ≤ fr.1) (hnl : n = l.length) (w0 w : World) (hT0 : Tabs w0) (hb0 : Below w0.heap.size w0 w) (hg0 : w0.heap.size ≤ g) (hrow : Rowf w g 5 fr (byts l ++ ys)) :
    Calls Tryd.prog 52 #[.agg (byts key).toArray, .agg (byts nonce).toArray, .slice (some ⟨g, 0, none⟩) n c] w fun e w' => e = .returned (.tuple #[]) ∧ w.grownBy w' (some g) ∧ Rowf w' g 5 fr (byts (turnL key nonce l) ++ ys) := by
  have hglt := hrow.lt
  obtain ⟨K, hK⟩ : ∃ K, K = byts key := ⟨_, rfl⟩
  have hKl : K.length = 32 := by rw [hK, length_byts]; exact hk
  have hszL := Lib.hid (show (Tryd.prog.info? 25).map (·.size) = some K.length by rw [size_tag, hKl])
  obtain ⟨M, hM⟩ : ∃ M, M = byts nonce := ⟨_, rfl⟩
  have HM := Lib.hid hM
  obtain ⟨X, hX⟩ : ∃ X, X = streamL key nonce l.length := ⟨_, rfl⟩
  have HXl := Lib.hid (show X.length = l.length by rw [hX]; exact length_streamL _ _ _)
  have HX := Lib.hid hX
  have hnumA := Lib.hid (show ∀ q w1, Calls Tryd.prog 56 #[.int .u64 ((q : Nat) : Int)] w1 (GaveBytes (eightL q) w1) from fun q w1 => number_any q w1)
  have hkeyA := Lib.hid (show ∀ q w1 B d, Tabs w1 → Sl w1 B d (strsV [nonce, eightL q]) → Calls Tryd.prog 24 #[.agg K.toArray, .string (bstr streamU), .slice B 2 d] w1 fun e w' => e = .returned (.agg (byts (blockL key nonce q)).toArray) ∧ Below w1.heap.size w1 w' by
    rw [hK]
    exact fun q w1 B d hT h => dkey_any key hk streamU B 2 d [nonce, eightL q] w1 hT h rfl (by show (6 + 1) + ((nonce.length + 1) + (((eightL q).length + 1) + 0)) ≤ _; rw [length_eightL, hn]; decide))
  have HN := Lib.hid hn
  have HNL := Lib.hid hnl
  rw [← hK, ← hM]
  clear hK hKl hM hk hn hX hnl
  go_enter Tryd.func52, Tryd.ntmps52
  go_wp2_with fail
  generalize hw3 : World.alloc (World.alloc (World.alloc w _) _) _ = w3
  obtain ⟨r0, r1, rT, hb3, hs3⟩ := rows3 (A := K) (B := M) (C := List.replicate 32 (.int .u8 0)) hw3
  have rg := hrow.later hb3 hglt
  rw [zero_cells] at rT
  clear hw3 hs3 hrow
  go_wp2_with fail
  go_loopw [10] (fun i wr => ∃ k : Nat, k ≤ l.length ∧ i = .int .i64 k ∧ Rowf wr g 5 fr (byts (xorWith (l.take k) (X.take k) ++ l.drop k) ++ ys) ∧ Row wr w.heap.size 25 K ∧ Row wr (w.heap.size + 1) 25 M ∧ (∃ T : List UInt8, T.length = 32 ∧ Row wr (w.heap.size + 1 + 1) 25 (byts T) ∧ (k % 32 ≠ 0 → T = blockL key nonce (k / 32))) ∧ w.grownBy wr (some g)) (fun i _ => l.length - (intOf i).toNat)
  case atStart => exact ⟨0, by omega, rfl, rg, r0, r1, ⟨zeroT, rfl, rT, fun h => absurd rfl h⟩, grown_of_below hb3 _⟩
  case round =>
    clear r0 r1 rT hb3 rg
    obtain ⟨k, hk, rfl, rg, r0, r1, ⟨T, hTl, rT, hT⟩, hg⟩ := hrel
    by_cases hlt : k < l.length
    · have hlt' : k < n := by rw [HNL.out]; exact hlt
      obtain ⟨r, hrk⟩ : ∃ r, r = k % 32 := ⟨_, rfl⟩
      have hr : r < 32 := by omega
      have hrem : (k : Int) % (32 : Int) = (r : Int) := by rw [hrk]; omega
      have hk32 := Lib.hid hrk
      have hT := fun h : r ≠ 0 => hT (by rw [← hrk]; exact h)
      have hgne : g ≠ w.heap.size + 1 + 1 := by omega
      obtain ⟨P, hP⟩ : ∃ P, P = xorWith (l.take k) (X.take k) ++ l.drop k := ⟨_, rfl⟩
      have HPl := Lib.hid (show P.length = l.length by rw [hP]; exact turn_len l X k (by omega) (by rw [HXl.out]; omega))
      have HPk := Lib.hid (show P.getD k 0 = l.getD k 0 by rw [hP]; exact turn_at l X k hlt (by rw [HXl.out]; omega))
      have HP := Lib.hid hP
      have hTr : Tabs wr := hT0.later (hb0.grown hg hb0.size (fun k h => by cases h; exact hg0)) (Nat.le_refl _)
      rw [← hP] at rg
      clear hrk hP
      by_cases h0 : r = 0
      · have HR := Lib.hid hrem
        have hrem0 : (k : Int) % (32 : Int) = 0 := by rw [hrem, h0]; rfl
        clear hrem h0 hT
        obtain ⟨q, hq⟩ : ∃ q, q = k / 32 := ⟨_, rfl⟩
        have hquo : (k : Int) / (32 : Int) = (q : Int) := by rw [hq]; omega
        have hqw : IntKind.i64.wrap (q : Int) = (q : Int) := by rw [IntKind.wrap_i64]; omega
        have hwr : IntKind.u64.wrap (q : Int) = (q : Int) := by rw [IntKind.wrap_u64]; omega
        obtain ⟨T', hT'⟩ : ∃ T', T' = blockL key nonce q := ⟨_, rfl⟩
        obtain ⟨V, hV⟩ : ∃ V, V = byts T' := ⟨_, rfl⟩
        have hTl' : T'.length = 32 := by rw [hT']; exact length_blockL _ _ _
        have hVl : V.length = 32 := by rw [hV, length_byts]; exact hTl'
        obtain ⟨E, hE⟩ : ∃ E, E = eightL q := ⟨_, rfl⟩
        have hnum := Lib.hid (show ∀ w1, Calls Tryd.prog 56 #[.int .u64 (q : Int)] w1 (GaveBytes E w1) by rw [hE]; exact hnumA.out q)
        have hkey := Lib.hid (show ∀ w1 B d, Tabs w1 → Sl w1 B d (strsV [nonce, E]) → Calls Tryd.prog 24 #[.agg K.toArray, .string (bstr streamU), .slice B 2 d] w1 fun e w' => e = .returned (.agg V.toArray) ∧ Below w1.heap.size w1 w' by
          rw [hV, hT', hE]; exact hkeyA.out q)
        have hone := Lib.hid (show ∀ v ∈ V, v.oneCell' = true by rw [hV]; exact byts_one _)
        have hszl := Lib.hid (show (Tryd.prog.info? 25).map (·.size) = some V.length by rw [size_tag, hVl])
        have hfit := Lib.hid (show 0 + V.length ≤ (byts T).length by rw [hVl, length_byts, hTl]; decide)
        have HVr := Lib.hid (show splice (byts T) 0 V = V by
          unfold splice
          rw [List.take_zero, List.nil_append, Nat.zero_add, hVl, List.drop_of_length_le (by rw [length_byts, hTl]; exact Nat.le_refl _), List.append_nil])
        have HV := Lib.hid hV
        have HT' := Lib.hid (show T' = blockL key nonce (k / 32) by rw [hT', hq])
        have HK1 := Lib.hid (show (k + 1) % 32 ≠ 0 → T' = blockL key nonce ((k + 1) / 32) from fun _ => by rw [hT', hq, show (k + 1) / 32 = k / 32 by have := hk32.out; have := HR.out; omega])
        have ne0 : w.heap.size ≠ w.heap.size + 1 + 1 := by omega
        have hcv3 := conv_grown (g := w.heap.size + 1 + 1) (w := wr) (A := some ⟨w.heap.size + 1, 0, none⟩) (c := 32) (l := nonce) ⟨Rd.row (ys := []) (by rw [List.append_nil, ← HM.out]; exact r1), by rw [length_byts, HN.out]; exact Nat.le_refl _, fun h => by cases h⟩ 32 HN.out.symm (fun _ a ha => by cases ha; show w.heap.size + 1 ≠ _; omega)
        clear hV hVl hT' hE hr hq
        go_wp2_with fail
        refine wp_region_noPanic ?_
        refine wp_region_held_drew (S := fun w' => World.grownBy wr w' (some (w.heap.size + 1 + 1))) (by kernel_rfl) (grown_of_below (Below.refl _ _).drew _) (fun hHeld => ?_)
        have hAll := hHeld
        refine rt 0 16 hHeld ?_ (hy := by intro w hS; exact run_load_op 25 (.tmp 3) rfl _ 0 rfl K _ (row_range (r0.grown hS ne0)) Tryd.underlying25 rfl hszL.out)
        refine rt 1 17 hHeld ?_
        refine rt 2 18 hHeld ?_
        refine rt 3 19 hHeld ?_
        refine rt 4 20 hHeld ?_
        refine rt 5 21 hHeld ?_
        refine rc1 6 fun K hK => ?_
        go_simp
        refine (hnum.out _).mono ?_; rintro e w4 ⟨v4, rfl, hown4, hb4⟩; have hb34 := ((Below.refl wr.heap.size wr).drew).trans (hb4.mono (Nat.le_refl _)); obtain ⟨A4, c4, rfl, _, hsl4⟩ := Sl.of_own hown4; have hcv4 := conv_grown (g := w.heap.size + 1 + 1) hsl4 _ rfl (fun _ a ha => own_apart hown4 rT.lt a ha); clear hown4
        try go_wp2_with fail
        refine hK.out _ _ (grown_trans hHeld (grown_of_below hb4 _)) (fun _ => ?_)
        clear hK K
        have hAll := grown_trans hAll (grown_of_below hb4 _)
        refine wpAnyH_narrow (S' := fun w' => World.grownBy w4 w' (some (w.heap.size + 1 + 1))) (fun _ h => grown_trans (grown_trans hHeld (grown_of_below hb4 _)) h) _ _ _ _ ?_
        clear hHeld
        have hHeld : World.grownBy w4 w4 (some (w.heap.size + 1 + 1)) := grown_refl _ _
        refine rt 7 23 hHeld ?_
        refine rc1 8 fun K hK => ?_
        refine step_alloc (some 24) rfl (by rfl) (.slice (some ⟨w4.heap.size, 0, none⟩) 2 2) (.cells #[.string (bstr nonce), .string (bstr E)] 9) (by go_simp) ?_; intro w5 hw5 hb5; have hb35 := below_step hb34 hb5; have hss : Sl w5 (some ⟨w4.heap.size, 0, none⟩) 2 (strsV [nonce, E]) := (by rw [hw5]; exact ⟨Rd.row (ys := []) (by rw [List.append_nil]; exact Row.new w4 9 (strsV [nonce, E])), by rw [length_strsV]; exact Nat.le_refl _, fun h => by cases h⟩); clear hw5
        refine rk hK (grown_trans hHeld (grown_of_below hb5 _)) fun _ => ?_
        clear hK K
        have hAll := grown_trans hAll (grown_of_below hb5 _)
        refine wpAnyH_narrow (S' := fun w' => World.grownBy w5 w' (some (w.heap.size + 1 + 1))) (fun _ h => grown_trans (grown_trans hHeld (grown_of_below hb5 _)) h) _ _ _ _ ?_
        clear hHeld
        have hHeld : World.grownBy w5 w5 (some (w.heap.size + 1 + 1)) := grown_refl _ _
        refine rc1 9 fun K hK => ?_
        go_simp
        refine (hkey.out _ _ _ (hTr.later hb35 (Nat.le_refl _)) hss).mono ?_; rintro e w6 ⟨rfl, hb6⟩; have hb36 := below_step hb35 hb6
        try go_wp2_with fail
        refine hK.out _ _ (grown_trans hHeld (grown_of_below hb6 _)) (fun _ => ?_)
        clear hK K
        have hAll := grown_trans hAll (grown_of_below hb6 _)
        refine wpAnyH_narrow (S' := fun w' => World.grownBy w6 w' (some (w.heap.size + 1 + 1))) (fun _ h => grown_trans (grown_trans hHeld (grown_of_below hb6 _)) h) _ _ _ _ ?_
        clear hHeld
        have hHeld : World.grownBy w6 w6 (some (w.heap.size + 1 + 1)) := grown_refl _ _
        refine rc1 10 fun K hK => ?_
        refine step_store_row none rfl (by rfl) 25 (.tmp 6) (.tmp 25) rfl (w.heap.size + 1 + 1) 0 25 _ V rfl rfl (rT.later hb36 rT.lt) hfit.out hszl.out hone.out ?_; intro w9 r9 hg9
        refine hK.out _ _ (grown_trans hHeld hg9) (fun _ => ?_)
        clear hK K
        rw [put_none]
        have hAll := grown_trans hAll hg9
        refine wpAnyH_narrow (S' := fun w' => World.grownBy w9 w' (some (w.heap.size + 1 + 1))) (fun _ h => grown_trans (grown_trans hHeld hg9) h) _ _ _ _ ?_
        clear hHeld
        have hHeld : World.grownBy w9 w9 (some (w.heap.size + 1 + 1)) := grown_refl _ _
        refine wpAnyH_done (by kernel_rfl) ?_ _
        refine NoPanic.normal ?_
        have r9 : Row w9 (w.heap.size + 1 + 1) 25 V := by rw [HVr.out] at r9; exact r9
        rw [HV.out] at r9
        have hb3 := hb36
        have r0' := (r0.later hb36 r0.lt).grown hg9 ne0
        have r1' := (r1.later hb36 r1.lt).grown hg9 (by omega)
        have rg' := (rg.later hb36 rg.lt).grown hg9 hgne
        have hg' : w.grownBy w9 (some g) := grown_past hg hAll (by omega)
        have hr : r < 32 := by have := hk32.out; omega
        have hTl := hTl'
        have hT := HT'.out
        have hrem := HR.out
        clear hb36 hb35 hb34 hb4 hb5 hb6 hcv4 hcv3 hss hsl4 hg9 hAll hHeld rT rg r0 r1 hTr hnum hkey hone hszl hfit HVr HV HT' HR hrem0 hquo hqw hwr
        generalize T' = T at *
        have hcb : w9.cell? ⟨g, k, none⟩ = some (.int .u8 ((l.getD k 0).toNat : Int)) := by
          rw [rg'.cell, List.getElem?_append_left (by rw [length_byts, HPl.out]; exact hlt), get_byts _ _ (by rw [HPl.out]; exact hlt), HPk.out]
        have hfb : w9.frozen? ⟨g, k, none⟩ = false := rg'.free k (by omega)
        have hct : w9.cell? ⟨w.heap.size + 1 + 1, r, none⟩ = some (.int .u8 ((T.getD r 0).toNat : Int)) := by rw [r9.cell, get_byts _ _ (by rw [hTl]; exact hr)]
        have HT := Lib.hid (show T.getD r 0 = X.getD k 0 by rw [hT, HX.out, getD_streamL _ _ _ _ hlt, ← hk32.out])
        have HS := Lib.hid (show (P.set k (l.getD k 0 ^^^ T.getD r 0)) = xorWith (l.take (k + 1)) (X.take (k + 1)) ++ l.drop (k + 1) by rw [HT.out, HP.out]; exact turn_succ l X k hlt (by rw [HXl.out]; exact hlt))
        generalize T.getD r 0 = y at *
        generalize l.getD k 0 = x at *
        have hx := byte_xor x y
        have hrr : (r : Int) < 32 := by omega
        have htm : (k : Int).tmod 32 = (r : Int) := by rw [Int.tmod_eq_emod_of_nonneg (by omega)]; exact hrem
        have hixg := index_own (some ⟨g, 0, none⟩) g n c k rfl hlt'
        clear hT
        go_wp2_with fail
        refine wp_region_noPanic ?_
        refine wp_region_held_drew (S := fun w' => w'.cell? ⟨w.heap.size + 1 + 1, r, none⟩ = some (.int .u8 (y.toNat : Int))) (by kernel_rfl) (hct) (fun hHeld => ?_)
        refine rt 0 26 hHeld ?_
        refine rt 1 27 hHeld ?_
        refine rt 2 28 hHeld ?_
        refine rt 4 30 hHeld ?_
        refine rt 5 31 hHeld ?_
        refine rt 6 32 hHeld ?_
        refine rt 7 33 hHeld ?_
        refine rc1 3 fun K hK => ?_
        go_simp
        refine hK.out _ _ (hHeld) (fun hHeld => ?_)
        clear hK K
        try (first | (rw [put_some]; dsimp only [List.set]) | rw [put_none])
        refine rt 8 34 hHeld ?_
        refine rt 9 35 hHeld ?_
        refine rc1 10 fun K hK => ?_
        go_simp
        refine hK.out _ _ (by exact (World.cell?_setCell_far _ _ _ _ hgne).trans hct) (fun _ => ?_)
        clear hK K
        try (first | (rw [put_some]; dsimp only [List.set]) | rw [put_none])
        refine wpAnyH_done (by kernel_rfl) ?_ _
        refine NoPanic.normal ?_
        have rN := (rg'.set k (.int .u8 ((x ^^^ y).toNat : Int))).drew
        rw [List.set_append_left _ _ (by rw [length_byts, HPl.out]; exact hlt), byts_set, HS.out, UInt8.toNat_xor] at rN
        have r0N := (r0'.far ⟨g, k, none⟩ (.int .u8 ((x.toNat ^^^ y.toNat : Nat) : Int)) (by show w.heap.size ≠ g; omega)).drew
        have r1N := (r1'.far ⟨g, k, none⟩ (.int .u8 ((x.toNat ^^^ y.toNat : Nat) : Int)) (by show w.heap.size + 1 ≠ g; omega)).drew
        have rTN := (r9.far ⟨g, k, none⟩ (.int .u8 ((x.toNat ^^^ y.toNat : Nat) : Int)) (by show w.heap.size + 1 + 1 ≠ g; omega)).drew
        have hgN := grown_trans hg' (grown_trans (grown_setCell w9 g k (.int .u8 ((x.toNat ^^^ y.toNat : Nat) : Int))) (grown_of_below (Below.refl _ _).drew _))
        generalize (w9.setCell ⟨g, k, none⟩ (.int .u8 ((x.toNat ^^^ y.toNat : Nat) : Int))).drew = wN at *
        clear hcb hfb hct hx hixg rg' r9 r0' r1' HS HT
        go_wp2_with fail
        go_roundw
        case rel => exact ⟨k + 1, by omega, by go_num, rN, r0N, r1N, ⟨T, hTl, rTN, fun h => HK1.out h⟩, hgN⟩
        case measure => simp [intOf]; omega
      · have hr0 : ¬ (r : Int) = 0 := by omega
        have hT := hT h0
        have HK1 := Lib.hid (show (k + 1) % 32 ≠ 0 → T = blockL key nonce ((k + 1) / 32) from fun h => by rw [hT, show (k + 1) / 32 = k / 32 by have := hk32.out; omega])
        have hcb : wr.cell? ⟨g, k, none⟩ = some (.int .u8 ((l.getD k 0).toNat : Int)) := by
          rw [rg.cell, List.getElem?_append_left (by rw [length_byts, HPl.out]; exact hlt), get_byts _ _ (by rw [HPl.out]; exact hlt), HPk.out]
        have hfb : wr.frozen? ⟨g, k, none⟩ = false := rg.free k (by omega)
        have hct : wr.cell? ⟨w.heap.size + 1 + 1, r, none⟩ = some (.int .u8 ((T.getD r 0).toNat : Int)) := by rw [rT.cell, get_byts _ _ (by rw [hTl]; exact hr)]
        have HT := Lib.hid (show T.getD r 0 = X.getD k 0 by rw [hT, HX.out, getD_streamL _ _ _ _ hlt, ← hk32.out])
        have HS := Lib.hid (show (P.set k (l.getD k 0 ^^^ T.getD r 0)) = xorWith (l.take (k + 1)) (X.take (k + 1)) ++ l.drop (k + 1) by rw [HT.out, HP.out]; exact turn_succ l X k hlt (by rw [HXl.out]; exact hlt))
        generalize T.getD r 0 = y at *
        generalize l.getD k 0 = x at *
        have hx := byte_xor x y
        have hrr : (r : Int) < 32 := by omega
        have htm : (k : Int).tmod 32 = (r : Int) := by rw [Int.tmod_eq_emod_of_nonneg (by omega)]; exact hrem
        have hixg := index_own (some ⟨g, 0, none⟩) g n c k rfl hlt'
        clear hT
        go_wp2_with fail
        refine wp_region_noPanic ?_
        refine wp_region_held_drew (S := fun w' => w'.cell? ⟨w.heap.size + 1 + 1, r, none⟩ = some (.int .u8 (y.toNat : Int))) (by kernel_rfl) (hct) (fun hHeld => ?_)
        refine rt 0 26 hHeld ?_
        refine rt 1 27 hHeld ?_
        refine rt 2 28 hHeld ?_
        refine rt 4 30 hHeld ?_
        refine rt 5 31 hHeld ?_
        refine rt 6 32 hHeld ?_
        refine rt 7 33 hHeld ?_
        refine rc1 3 fun K hK => ?_
        go_simp
        refine hK.out _ _ (hHeld) (fun hHeld => ?_)
        clear hK K
        try (first | (rw [put_some]; dsimp only [List.set]) | rw [put_none])
        refine rt 8 34 hHeld ?_
        refine rt 9 35 hHeld ?_
        refine rc1 10 fun K hK => ?_
        go_simp
        refine hK.out _ _ (by exact (World.cell?_setCell_far _ _ _ _ hgne).trans hct) (fun _ => ?_)
        clear hK K
        try (first | (rw [put_some]; dsimp only [List.set]) | rw [put_none])
        refine wpAnyH_done (by kernel_rfl) ?_ _
        refine NoPanic.normal ?_
        have rN := (rg.set k (.int .u8 ((x ^^^ y).toNat : Int))).drew
        rw [List.set_append_left _ _ (by rw [length_byts, HPl.out]; exact hlt), byts_set, HS.out, UInt8.toNat_xor] at rN
        have r0N := (r0.far ⟨g, k, none⟩ (.int .u8 ((x.toNat ^^^ y.toNat : Nat) : Int)) (by show w.heap.size ≠ g; omega)).drew
        have r1N := (r1.far ⟨g, k, none⟩ (.int .u8 ((x.toNat ^^^ y.toNat : Nat) : Int)) (by show w.heap.size + 1 ≠ g; omega)).drew
        have rTN := (rT.far ⟨g, k, none⟩ (.int .u8 ((x.toNat ^^^ y.toNat : Nat) : Int)) (by show w.heap.size + 1 + 1 ≠ g; omega)).drew
        have hgN := grown_trans hg (grown_trans (grown_setCell wr g k (.int .u8 ((x.toNat ^^^ y.toNat : Nat) : Int))) (grown_of_below (Below.refl _ _).drew _))
        generalize (wr.setCell ⟨g, k, none⟩ (.int .u8 ((x.toNat ^^^ y.toNat : Nat) : Int))).drew = wN at *
        clear hcb hfb hct hx hixg rg rT r0 r1 HS HT
        go_wp2_with fail
        go_roundw
        case rel => exact ⟨k + 1, by omega, by go_num, rN, r0N, r1N, ⟨T, hTl, rTN, fun h => HK1.out h⟩, hgN⟩
        case measure => simp [intOf]; omega
    · obtain rfl : k = l.length := by omega
      rw [List.take_length, List.take_of_length_le (by rw [HXl.out]; exact Nat.le_refl _), List.drop_length, List.append_nil] at rg
      have hF : turnL key nonce l = xorWith l X := by rw [HX.out]; rfl
      have hlt' : ¬ (l.length : Int) < (n : Int) := by rw [HNL.out]; omega
      rw [← hF] at rg
      clear hF r0 r1 rT hTl hT hlt hk HXl HX
      go_wp2
      go_end0
      exact ⟨rfl, hg, rg⟩
end Go.Proofs.YtcbilopdeiapjaaDoor

/- LAYER 7: package seal's mark, turned, Stream. -/
namespace Go.Proofs.YtcbilopdeiapjaaDoor
set_option maxRecDepth 100000
open Go Go.RowKit

/-- A string turned into bytes: the new block is one row. -/
theorem conv_string_row (w : World) (l : List UInt8) : ∃ c ys fr w', (convert 9 58 (.string (bstr l))).run Tryd.prog w = .ok (.slice (some ⟨w.heap.size, 0, none⟩) l.length c) w' ∧ Rowf w' w.heap.size 5 fr (byts l ++ ys) ∧ l.length ≤ fr.1 ∧ l.length ≤ c ∧ Below w.heap.size w w' := by
  have h := run_bytes_of_string (P := Tryd.prog) w 9 58 5 (bstr l) Tryd.underlying9 Tryd.underlying58 Tryd.underlying5
  rw [size_bstr, bytesRow_list] at h
  exact ⟨_, _, _, _, h, Go.heap_alloc_new w.drew _, by rw [List.size_toArray, List.length_append, length_byts]; omega, grownCap_ge w l.length 0 5, ((Below.refl _ w).drew).alloc (Nat.le_refl _) _⟩
theorem wpList_conv_row {w : World} {ops : Array Oper} {rest : List Oper} {o : Oper} {a : Act} {Q : Exit → Act → World → Prop} (hgd : o.guard = none) (x : Operand)
    (ho : o.op = .convert 9 58 x) (l : List UInt8) (hx : a.eval x = .string (bstr l))
    (h : ∀ c ys fr w', Rowf w' w.heap.size 5 fr (byts l ++ ys) → l.length ≤ fr.1 → l.length ≤ c → Below w.heap.size w w' → wpList Tryd.prog ops Q rest (a.put o.dst (.slice (some ⟨w.heap.size, 0, none⟩) l.length c)) w') : wpList Tryd.prog ops Q (o :: rest) a w := by
  refine wpList_plain hgd fun _ hK => ?_
  obtain ⟨c, ys, fr, w', hrun, hs, hf, hc, hb⟩ := conv_string_row w l
  unfold Oper.wp execOp
  simp only [ho, hx, hrun, Sem.run_bind, Sem.run_pure, Result.andThen_ok]
  exact hK _ _ (h _ _ _ _ hs hf hc hb)
set_option maxRecDepth 100000 in
set_option maxHeartbeats 1000000 in
theorem dmark_any (key nonce : List UInt8) (hk : key.length = 32) (hn : nonce.length = 32) (C : List UInt8) (hC : C.length ≤ 900000000) (w : World) (hT : Tabs w) :
    Calls Tryd.prog 36 #[.agg (byts key).toArray, .agg (byts nonce).toArray, .string (bstr C)] w fun e w' => e = .returned (.agg (byts (tagOver key nonce C)).toArray) ∧ Below w.heap.size w w' := by
  obtain ⟨K, hK⟩ : ∃ K, K = byts key := ⟨_, rfl⟩
  have hKl : K.length = 32 := by rw [hK, length_byts]; exact hk
  have hszK := Lib.hid (show (Tryd.prog.info? 25).map (·.size) = some K.length by rw [size_tag, hKl])
  obtain ⟨M, hM⟩ : ∃ M, M = byts nonce := ⟨_, rfl⟩
  have HM := Lib.hid hM
  obtain ⟨V, hV⟩ : ∃ V, V = byts (tagOver key nonce C) := ⟨_, rfl⟩
  have hVl : V.length = 32 := by rw [hV, length_byts]; exact length_tagOver _ _ _
  have hone := Lib.hid (show ∀ v ∈ V, v.oneCell' = true by rw [hV]; exact byts_one _)
  have hszl := Lib.hid (show (Tryd.prog.info? 25).map (·.size) = some V.length by rw [size_tag, hVl])
  have hsz2 := Lib.hid (show (Tryd.prog.info? 25).map (·.size) = some V.toArray.size by rw [size_tag, List.size_toArray, hVl])
  have hfit := Lib.hid (show 0 + V.length ≤ (List.replicate 32 (Value.int .u8 0)).length by rw [hVl, List.length_replicate]; decide)
  have HVr := Lib.hid (show splice (List.replicate 32 (Value.int .u8 0)) 0 V = V by
    unfold splice
    rw [List.take_zero, List.nil_append, Nat.zero_add, hVl, List.drop_of_length_le (by rw [List.length_replicate]; exact Nat.le_refl _), List.append_nil])
  have hkey := Lib.hid (show ∀ w1 B d, Tabs w1 → Sl w1 B d (strsV [nonce, C]) → Calls Tryd.prog 24 #[.agg K.toArray, .string (bstr sealU), .slice B 2 d] w1 fun e w' => e = .returned (.agg V.toArray) ∧ Below w1.heap.size w1 w' by
    rw [hK, hV]
    exact fun w1 B d hT h => dkey_any key hk sealU B 2 d [nonce, C] w1 hT h rfl (by show (4 + 1) + ((nonce.length + 1) + ((C.length + 1) + 0)) ≤ _; rw [hn]; omega))
  have HVD := Lib.hid hV
  have HN := Lib.hid hn
  rw [← hK, ← hM]
  clear hV hVl hK hKl hM hk hn hC
  go_enter Tryd.func36, Tryd.ntmps36
  go_wp2_with fail
  generalize hw3 : World.alloc (World.alloc (World.alloc w _) _) _ = w3
  obtain ⟨r0, r1, r2, hb3, hs3⟩ := rows3 (A := K) (B := M) (C := List.replicate 32 (.int .u8 0)) hw3
  have hT3 := hT.later hb3 (Nat.le_refl _)
  have ne0 : w.heap.size ≠ w.heap.size + 1 + 1 := by omega
  have hcv3 := conv_grown (g := w.heap.size + 1 + 1) (w := w3) (A := some ⟨w.heap.size + 1, 0, none⟩) (c := 32) (l := nonce) ⟨Rd.row (ys := []) (by rw [List.append_nil, ← HM.out]; exact r1), by rw [length_byts, HN.out]; exact Nat.le_refl _, fun h => by cases h⟩ 32 HN.out.symm (fun _ a ha => by cases ha; show w.heap.size + 1 ≠ _; omega)
  clear hw3 hs3 r1
  refine wp_region_noPanic ?_
  refine wp_region_held_drew (S := fun w' => World.grownBy w3 w' (some (w.heap.size + 1 + 1))) (by kernel_rfl) (grown_of_below (Below.refl _ _).drew _) (fun hHeld => ?_)
  have hAll := hHeld
  refine rt 0 7 hHeld ?_ (hy := by intro w hS; exact run_load_op 25 (.tmp 3) rfl _ 0 rfl K _ (row_range (r0.grown hS ne0)) Tryd.underlying25 rfl hszK.out)
  refine rt 1 8 hHeld ?_
  refine rt 2 9 hHeld ?_
  refine rt 3 10 hHeld ?_
  refine rc1 4 fun K hK => ?_
  refine step_alloc (some 11) rfl (by rfl) (.slice (some ⟨w3.heap.size, 0, none⟩) 2 2) (.cells #[.string (bstr nonce), .string (bstr C)] 9) (by go_simp) ?_; intro w5 hw5 hb5; have hb35 := ((Below.refl w3.heap.size w3).drew).trans (hb5.mono (Nat.le_refl _)); have hss : Sl w5 (some ⟨w3.heap.size, 0, none⟩) 2 (strsV [nonce, C]) := (by rw [hw5]; exact ⟨Rd.row (ys := []) (by rw [List.append_nil]; exact Row.new w3.drew 9 (strsV [nonce, C])), by rw [length_strsV]; exact Nat.le_refl _, fun h => by cases h⟩); clear hw5
  refine rk hK (grown_trans hHeld (grown_of_below hb5 _)) fun _ => ?_
  clear hK K
  have hAll := grown_trans hAll (grown_of_below hb5 _)
  refine wpAnyH_narrow (S' := fun w' => World.grownBy w5 w' (some (w.heap.size + 1 + 1))) (fun _ h => grown_trans (grown_trans hHeld (grown_of_below hb5 _)) h) _ _ _ _ ?_
  clear hHeld
  have hHeld : World.grownBy w5 w5 (some (w.heap.size + 1 + 1)) := grown_refl _ _
  refine rc1 5 fun K hK => ?_
  go_simp
  refine (hkey.out _ _ _ (hT3.later hb35 (Nat.le_refl _)) hss).mono ?_; rintro e w6 ⟨rfl, hb6⟩; have hb36 := below_step hb35 hb6
  try go_wp2_with fail
  refine hK.out _ _ (grown_trans hHeld (grown_of_below hb6 _)) (fun _ => ?_)
  clear hK K
  have hAll := grown_trans hAll (grown_of_below hb6 _)
  refine wpAnyH_narrow (S' := fun w' => World.grownBy w6 w' (some (w.heap.size + 1 + 1))) (fun _ h => grown_trans (grown_trans hHeld (grown_of_below hb6 _)) h) _ _ _ _ ?_
  clear hHeld
  have hHeld : World.grownBy w6 w6 (some (w.heap.size + 1 + 1)) := grown_refl _ _
  refine rc1 6 fun K hK => ?_
  refine step_store_row none rfl (by rfl) 25 (.tmp 6) (.tmp 12) rfl (w.heap.size + 1 + 1) 0 25 _ V rfl rfl (r2.later hb36 r2.lt) hfit.out hszl.out hone.out ?_; intro w9 r9 hg9
  refine hK.out _ _ (grown_trans hHeld hg9) (fun _ => ?_)
  clear hK K
  rw [put_none]
  have hAll := grown_trans hAll hg9
  refine wpAnyH_narrow (S' := fun w' => World.grownBy w9 w' (some (w.heap.size + 1 + 1))) (fun _ h => grown_trans (grown_trans hHeld hg9) h) _ _ _ _ ?_
  clear hHeld
  have hHeld : World.grownBy w9 w9 (some (w.heap.size + 1 + 1)) := grown_refl _ _
  refine wpAnyH_done (by kernel_rfl) ?_ _
  refine NoPanic.normal ?_
  have r9 : Row w9 (w.heap.size + 1 + 1) 25 V := by rw [HVr.out] at r9; exact r9
  have hb9 := hb3.grown hAll hb3.size (fun k h => by cases h; omega)
  have R9 := Lib.hid (show w9.heap[w.heap.size + 1 + 1]? = some (.cells V.toArray 25 (0, 0)) from r9)
  clear r9 hg9 r0 r2 hcv3 hss hb5 hb6 hb35 hb36 hb3 hAll hHeld
  go_wp2_with (with_reducible refine bodyPost_ret (results_cell_row rfl _ _ (w.heap.size + 1 + 1) 25 V.toArray (0, 0) (.array 32 5) rfl R9.out Tryd.underlying25 rfl hsz2.out) rfl ?_)
  exact ⟨by rw [HVD.out], hb9⟩
set_option maxRecDepth 100000 in
set_option maxHeartbeats 1000000 in
theorem dturned_any (key nonce : List UInt8) (hk : key.length = 32) (hn : nonce.length = 32) (s : List UInt8) (hm : s.length < 9223372036854775808) (w : World) (hT : Tabs w) :
    Calls Tryd.prog 38 #[.agg (byts key).toArray, .agg (byts nonce).toArray, .string (bstr s)] w fun e w' => e = .returned (.string (bstr (turnL key nonce s))) ∧ Below w.heap.size w w' := by
  obtain ⟨K, hK⟩ : ∃ K, K = byts key := ⟨_, rfl⟩
  have hKl : K.length = 32 := by rw [hK, length_byts]; exact hk
  have hszK := Lib.hid (show (Tryd.prog.info? 25).map (·.size) = some K.toArray.size by rw [size_tag, List.size_toArray, hKl])
  obtain ⟨M, hM⟩ : ∃ M, M = byts nonce := ⟨_, rfl⟩
  have hMl : M.length = 32 := by rw [hM, length_byts]; exact hn
  have hszM := Lib.hid (show (Tryd.prog.info? 25).map (·.size) = some M.toArray.size by rw [size_tag, List.size_toArray, hMl])
  obtain ⟨X, hX⟩ : ∃ X, X = turnL key nonce s := ⟨_, rfl⟩
  have HXl := Lib.hid (show s.length = X.length by rw [hX]; exact (length_turnL _ _ _).symm)
  have htu := Lib.hid (show ∀ (ys : List Value) (g c : Nat) (fr : Nat × Nat) (w1 : World), s.length ≤ fr.1 → Below w.heap.size w w1 → w.heap.size ≤ g → Rowf w1 g 5 fr (byts s ++ ys) → Calls Tryd.prog 52 #[.agg K.toArray, .agg M.toArray, .slice (some ⟨g, 0, none⟩) s.length c] w1 fun e w' => e = .returned (.tuple #[]) ∧ w1.grownBy w' (some g) ∧ Rowf w' g 5 fr (byts X ++ ys) by
    rw [hK, hM, hX]; exact fun ys g c fr w1 hf hb hg hr => dturn_any key nonce hk hn s hm ys g s.length c fr (.inr hf) rfl w w1 hT hb hg hr)
  obtain ⟨r0, r1, hb0, hs2⟩ := two_rows (w := w) (A := K) (B := M) (tA := 25) (tB := 25) rfl
  have HS2 := Lib.hid (show ((w.alloc (.cells K.toArray 25)).alloc (.cells M.toArray 25)).heap.size = w.heap.size + 1 + 1 from hs2)
  rw [← hK, ← hM, ← hX]
  clear hK hKl hM hMl hk hn hX hm hT hs2
  go_enter Tryd.func38, Tryd.ntmps38
  go_wp2_with (first
    | (with_reducible refine wpList_load_row rfl 25 (.tmp 3) rfl w.heap.size rfl 25 K.toArray (0, 0) (.array 32 5) R0.out Tryd.underlying25 rfl hszK.out ?_)
    | (with_reducible refine wpList_load_row rfl 25 (.tmp 4) rfl (w.heap.size + 1) rfl 25 M.toArray (0, 0) (.array 32 5) R1.out Tryd.underlying25 rfl hszM.out ?_)
    | (go_at_call 52; refine (htu.out ys1 _ c1 fr1 _ hf1 hbw1 hg1 rg).mono ?_; rintro e w2 ⟨rfl, hg2, rg2⟩; have hsl : Sl w2 (some ⟨w.heap.size + 1 + 1, 0, none⟩) c1 (byts X) := ⟨Rd.rowf rg2, by rw [length_byts, ← HXl.out]; exact hc1, fun h => by cases h⟩; have hcv := conv_bytes hsl s.length HXl.out; have hbw2 := hbw1.grown hg2 hbw1.size (fun k h => by cases h; omega); clear hsl rg rg2 hg2 hf1 hc1 R0 R1 hbw1 hg1)
    | (refine wpList_conv_row rfl (.tmp 8) rfl s rfl ?_; intro c1 ys1 fr1 w1 rg hf1 hc1 hb1; have R0 := Lib.hid (show w1.heap[w.heap.size]? = some (.cells K.toArray 25 (0, 0)) from r0.later hb1 r0.lt); have R1 := Lib.hid (show w1.heap[w.heap.size + 1]? = some (.cells M.toArray 25 (0, 0)) from r1.later hb1 r1.lt); have hbw1 := hb0.trans (hb1.mono hb0.size); rw [HS2.out] at rg; have hg1 : w.heap.size ≤ w.heap.size + 1 + 1 := (by omega); clear hb1 hb0 r0 r1))
  go_ret
  exact ⟨rfl, hbw2⟩
end Go.Proofs.YtcbilopdeiapjaaDoor

/- LAYER 7: package seal's Seal and Open. -/
namespace Go.Proofs.YtcbilopdeiapjaaDoor
set_option maxRecDepth 100000
open Go Go.RowKit

set_option maxRecDepth 100000 in
set_option maxHeartbeats 2000000 in
theorem dseal_any (key nonce : List UInt8) (hk : key.length = 32) (hn : nonce.length = 32) (p : List UInt8) (hs : p.length ≤ 100000) (w : World) (hT : Tabs w) :
    Calls Tryd.prog 29 #[.agg (byts key).toArray, .agg (byts nonce).toArray, .string (bstr p)] w fun e w' => e = .returned (.string (bstr (sealL key nonce p))) ∧ Below w.heap.size w w' := by
  obtain ⟨K, hK⟩ : ∃ K, K = byts key := ⟨_, rfl⟩
  have hKl : K.length = 32 := by rw [hK, length_byts]; exact hk
  have hszK := Lib.hid (show (Tryd.prog.info? 25).map (·.size) = some K.toArray.size by rw [size_tag, List.size_toArray, hKl])
  obtain ⟨M, hM⟩ : ∃ M, M = byts nonce := ⟨_, rfl⟩
  have HM := Lib.hid hM
  have hMl : M.length = 32 := by rw [hM, length_byts]; exact hn
  have hszM := Lib.hid (show (Tryd.prog.info? 25).map (·.size) = some M.toArray.size by rw [size_tag, List.size_toArray, hMl])
  obtain ⟨C, hC⟩ : ∃ C, C = turnL key nonce p := ⟨_, rfl⟩
  have hCl : C.length = p.length := by rw [hC]; exact length_turnL _ _ _
  have htu := Lib.hid (show ∀ w1, Tabs w1 → Calls Tryd.prog 38 #[.agg K.toArray, .agg M.toArray, .string (bstr p)] w1 fun e w' => e = .returned (.string (bstr C)) ∧ Below w1.heap.size w1 w' by
    rw [hK, hM, hC]; exact fun w1 hT => dturned_any key nonce hk hn p (by omega) w1 hT)
  obtain ⟨O, hO⟩ : ∃ O, O = tagOver key nonce C := ⟨_, rfl⟩
  obtain ⟨V, hV⟩ : ∃ V, V = byts O := ⟨_, rfl⟩
  have hOl : O.length = 32 := by rw [hO]; exact length_tagOver _ _ _
  have hVl : V.length = 32 := by rw [hV, length_byts]; exact hOl
  have hone := Lib.hid (all_one (show ∀ v ∈ V, v.oneCell' = true by rw [hV]; exact byts_one _))
  have hszl := Lib.hid (show (Tryd.prog.info? 25).map (·.size) = some V.toArray.size by rw [size_tag, List.size_toArray, hVl])
  have h32 := Lib.hid (show 32 = V.toArray.size by rw [List.size_toArray, hVl])
  have hmk := Lib.hid (show ∀ w1, Tabs w1 → Calls Tryd.prog 36 #[.agg K.toArray, .agg M.toArray, .string (bstr C)] w1 fun e w' => e = .returned (.agg V.toArray) ∧ Below w1.heap.size w1 w' by
    rw [hK, hM, hV, hO]; exact fun w1 hT => dmark_any key nonce hk hn C (by omega) w1 hT)
  have HA := Lib.hid (show bstr nonce ++ bstr C ++ bstr O = bstr (sealL key nonce p) by
    rw [bstr_append, bstr_append, hO, hC]; rfl)
  have HV := Lib.hid hV
  have HN := Lib.hid hn
  have HOl := Lib.hid hOl
  have hc1 := Lib.hid (show ¬ 9223372036854775807 < (bstr nonce).size + (bstr C).size by rw [size_bstr, size_bstr, hn, hCl]; omega)
  have hc2 := Lib.hid (show ¬ 9223372036854775807 < (bstr nonce).size + (bstr C).size + (bstr O).size by rw [size_bstr, size_bstr, size_bstr, hn, hCl, hOl]; omega)
  obtain ⟨r0, r1, hb0, _⟩ := two_rows (w := w) (A := K) (B := M) (tA := 25) (tB := 25) rfl
  have R0 := Lib.hid (show ((w.alloc (.cells K.toArray 25)).alloc (.cells M.toArray 25)).heap[w.heap.size]? = some (.cells K.toArray 25 (0, 0)) from r0)
  have R1 := Lib.hid (show ((w.alloc (.cells K.toArray 25)).alloc (.cells M.toArray 25)).heap[w.heap.size + 1]? = some (.cells M.toArray 25 (0, 0)) from r1)
  have hT0 := hT.later hb0 (Nat.le_refl _)
  rw [← hK, ← hM]
  clear hK hKl hM hMl hk hn hC hCl hV hVl hO hOl
  go_enter Tryd.func29, Tryd.ntmps29
  go_wp2_with (first
    | (with_reducible refine wpList_load_row rfl 25 (.tmp 3) rfl w.heap.size rfl 25 K.toArray (0, 0) (.array 32 5) R0.out Tryd.underlying25 rfl hszK.out ?_)
    | (with_reducible refine wpList_load_row rfl 25 (.tmp 4) rfl (w.heap.size + 1) rfl 25 M.toArray (0, 0) (.array 32 5) R1.out Tryd.underlying25 rfl hszM.out ?_)
    | (go_at_call 38; refine (htu.out _ hT0).mono ?_; rintro e w1 ⟨rfl, hb1⟩; have r0 := r0.later hb1 r0.lt; have r1 := r1.later hb1 r1.lt; have hbw1 := hb0.trans (hb1.mono hb0.size); have hT1 := hT.later hbw1 (Nat.le_refl _); have R0 := Lib.hid (show w1.heap[w.heap.size]? = some (.cells K.toArray 25 (0, 0)) from r0); have R1 := Lib.hid (show w1.heap[w.heap.size + 1]? = some (.cells M.toArray 25 (0, 0)) from r1); clear hb1 hb0)
    | (go_at_call 36; refine (hmk.out _ hT1).mono ?_; rintro e w2 ⟨rfl, hb2⟩; have r1 := r1.later hb2 r1.lt; have hbw2 := hbw1.trans (hb2.mono hbw1.size); clear hb2 hbw1)
    | (with_reducible refine wpList_store_row rfl 25 (.tmp 8) (.tmp 16) rfl w2.heap.size V.toArray rfl rfl 25 _ (heap_alloc_new w2 _) hszl.out (Eq.trans (by kernel_rfl) h32.out) hone.out ?_; refine Hid.out ?_))
  refine Lib.hid ?_
  generalize hw3 : World.setRow _ _ _ = w3
  obtain ⟨r3, hb3⟩ := row_new_set (xs := V) hw3
  have r1 := r1.later hb3 r1.lt
  have hbw3 := hbw2.trans (hb3.mono hbw2.size)
  clear hw3 hb3 hbw2
  generalize w2.heap.size = g at *
  have hslN : Sl w3 (some ⟨w.heap.size + 1, 0, none⟩) 32 (byts nonce) := ⟨Rd.row (ys := []) (by rw [List.append_nil, ← HM.out]; exact r1), by rw [length_byts, HN.out]; exact Nat.le_refl _, fun h => by cases h⟩
  have hslO : Sl w3 (some ⟨g, 0, none⟩) 32 (byts O) := ⟨Rd.row (ys := []) (by rw [List.append_nil, ← HV.out]; exact r3), by rw [length_byts, HOl.out]; exact Nat.le_refl _, fun h => by cases h⟩
  have hcN := conv_later hslN 32 HN.out.symm
  have hcO := conv_later hslO 32 HOl.out.symm
  clear hslN hslO r3 r1 r0
  have hc1 := hc1.out
  have hc2 := hc2.out
  go_wp2_with fail
  refine wp_region_noPanic ?_
  refine wp_region_held_drew (S := fun w' => Below w3.heap.size w3 w') (by kernel_rfl) ((Below.refl _ _).drew) (fun hHeld => ?_)
  refine rt 0 17 hHeld ?_
  refine rt 1 18 hHeld ?_
  refine rt 2 19 hHeld ?_
  refine rt 3 20 hHeld ?_
  refine rt 4 21 hHeld ?_
  refine rt 5 22 hHeld ?_
  refine rt 6 23 hHeld ?_
  refine rt 7 6 hHeld ?_
  refine wpAnyH_done (by kernel_rfl) ?_ _
  refine NoPanic.normal ?_
  clear hcN hcO hHeld
  go_wp2
  go_ret
  exact ⟨by show Ending.returned (.string (bstr nonce ++ bstr C ++ bstr O)) = _; rw [HA.out], hbw3.drew⟩
set_option maxRecDepth 100000 in
set_option maxHeartbeats 2000000 in
theorem dopen_any (key : List UInt8) (hk : key.length = 32) (s : List UInt8) (hs : s.length ≤ 100000) (w : World) (hT : Tabs w) :
    Calls Tryd.prog 23 #[.agg (byts key).toArray, .string (bstr s)] w fun e w' => e = .returned (openV (openL key s)) ∧ Below w.heap.size w w' := by
  have hz := size_bstr s
  have hb0 := (Below.refl w.heap.size w).alloc (Nat.le_refl _) (.cells (byts key).toArray 25)
  by_cases h64 : s.length < 64
  · have hL := Lib.hid (show openL key s = ([], false) by unfold openL; rw [if_pos h64])
    have h64' : (bstr s).size < 64 := by rw [hz]; exact h64
    clear h64 hz hs
    generalize bstr s = U at *
    generalize (byts key).toArray = KK at *
    go_enter Tryd.func23, Tryd.ntmps23
    go_wp2
    go_ret2
    exact ⟨by rw [hL.out]; rfl, hb0⟩
  obtain ⟨K, hK⟩ : ∃ K, K = byts key := ⟨_, rfl⟩
  have hKl : K.length = 32 := by rw [hK, length_byts]; exact hk
  have hszK := Lib.hid (show (Tryd.prog.info? 25).map (·.size) = some K.toArray.size by rw [size_tag, List.size_toArray, hKl])
  obtain ⟨N, hN⟩ : ∃ N, N = s.take 32 := ⟨_, rfl⟩
  have hNl : N.length = 32 := by rw [hN, List.length_take]; omega
  obtain ⟨M, hM⟩ : ∃ M, M = byts N := ⟨_, rfl⟩
  have hMl : M.length = 32 := by rw [hM, length_byts]; exact hNl
  have hszM := Lib.hid (show (Tryd.prog.info? 25).map (·.size) = some M.toArray.size by rw [size_tag, List.size_toArray, hMl])
  have hszML := Lib.hid (show (Tryd.prog.info? 25).map (·.size) = some M.length by rw [size_tag, hMl])
  have h32 := Lib.hid (show 32 = M.toArray.size by rw [List.size_toArray, hMl])
  have hone := Lib.hid (all_one (show ∀ v ∈ M, v.oneCell' = true by rw [hM]; exact byts_one _))
  obtain ⟨C, hC⟩ : ∃ C, C = midS s := ⟨_, rfl⟩
  have hCl : C.length = s.length - 64 := by rw [hC]; exact length_midS s (by omega)
  obtain ⟨P, hP⟩ : ∃ P, P = turnL key N C := ⟨_, rfl⟩
  obtain ⟨O, hO⟩ : ∃ O, O = tagOver key N C := ⟨_, rfl⟩
  have hOl : O.length = 32 := by rw [hO]; exact length_tagOver _ _ _
  obtain ⟨V, hV⟩ : ∃ V, V = byts O := ⟨_, rfl⟩
  have hVl : V.length = 32 := by rw [hV, length_byts]; exact hOl
  have honeV := Lib.hid (all_one (show ∀ v ∈ V, v.oneCell' = true by rw [hV]; exact byts_one _))
  have hszV := Lib.hid (show (Tryd.prog.info? 25).map (·.size) = some V.toArray.size by rw [size_tag, List.size_toArray, hVl])
  have h32V := Lib.hid (show 32 = V.toArray.size by rw [List.size_toArray, hVl])
  obtain ⟨D, hD⟩ : ∃ D, D = s.drop (s.length - 32) := ⟨_, rfl⟩
  have hDl : D.length = 32 := by rw [hD, List.length_drop]; omega
  have htu := Lib.hid (show ∀ w1, Tabs w1 → Calls Tryd.prog 38 #[.agg K.toArray, .agg M.toArray, .string (bstr C)] w1 fun e w' => e = .returned (.string (bstr P)) ∧ Below w1.heap.size w1 w' by
    rw [hK, hM, hP]; exact fun w1 hT => dturned_any key N hk hNl C (by omega) w1 hT)
  have hmk := Lib.hid (show ∀ w1, Tabs w1 → Calls Tryd.prog 36 #[.agg K.toArray, .agg M.toArray, .string (bstr C)] w1 fun e w' => e = .returned (.agg V.toArray) ∧ Below w1.heap.size w1 w' by
    rw [hK, hM, hV, hO]; exact fun w1 hT => dmark_any key N hk hNl C (by omega) w1 hT)
  have hL := Lib.hid (show openL key s = if O = D then (P, true) else ([], false) by
    have h := open_iff key s (by omega)
    rw [← hN, ← hC, ← hP, ← hO, ← hD] at h
    unfold openL
    rw [if_neg h64, ← hN, ← hC, ← hP]
    by_cases he : O = D
    · rw [if_pos he, if_pos (h.2 he)]
    · rw [if_neg he, if_neg (fun x => he (h.1 x))])
  have hx1 : (bstr s).extract 0 32 = bstr N := by rw [extract_bstr, hN]; rfl
  have hx2 : (bstr s).extract 32 ((bstr s).size - 32) = bstr C := by rw [extract_bstr, hz, hC]; unfold midS; rw [show s.length - 32 - 32 = s.length - 64 by omega]
  have hx3 : (bstr s).extract ((bstr s).size - 32) (bstr s).size = bstr D := by rw [extract_bstr, hz, hD, List.take_of_length_le (by rw [List.length_drop]; exact Nat.le_refl _)]
  have h64' : 64 ≤ (bstr s).size := by rw [hz]; omega
  obtain ⟨m, hm⟩ : ∃ m, m = (bstr s).size - 32 := ⟨_, rfl⟩
  rw [← hm] at hx2 hx3
  have hm0 : IntKind.i64.wrap (((bstr s).size : Int) - 32) = (m : Int) := by rw [hm, IntKind.wrap_i64]; omega
  have hm1 : (m : Int) ≤ ((bstr s).size : Int) := by omega
  have hm2 : (32 : Int) ≤ (m : Int) := by omega
  clear hm
  have hNl := Lib.hid hNl
  have HM := Lib.hid hM
  have HV := Lib.hid hV
  have HOl := Lib.hid hOl
  have HDl := Lib.hid hDl
  have r0 := Row.new w 25 K
  rw [← hK] at hb0 ⊢
  clear hK hKl hMl hM hN hCl hC hP hk h64 hs hz hO hOl hV hVl hD hDl
  generalize hU : bstr s = U at *
  clear hU
  go_enter Tryd.func23, Tryd.ntmps23
  go_wp2_with (first
    | (with_reducible refine wpList_load_mid rfl 25 (.tmp 19) rfl b1 o1 rfl M _ HR.out Tryd.underlying25 rfl hszML.out ?_)
    | (with_reducible refine wpList_store_row rfl 25 (.tmp 7) (.tmp 20) rfl w1.heap.size M.toArray rfl rfl 25 _ (heap_alloc_new w1 _) hszM.out (Eq.trans (by kernel_rfl) h32.out) hone.out ?_; refine Hid.out ?_)
    | (refine wpList_conv_string rfl (.tmp 17) rfl N rfl ?_; intro A1 c1 w1 hsl1 hb1; rw [hNl.out]; obtain ⟨b1, o1, rfl, _, _⟩ := hsl1.rd.get (i := 0) (by rw [length_byts, hNl.out]; decide); have HR := Lib.hid (show w1.rangeAt b1 o1 M by rw [HM.out]; exact hsl1.range); have hconv : ∀ w, (Instr.arrayAt 25 (.slice (some ⟨b1, o1, none⟩) 32 c1)).run Tryd.prog w = .ok (.pointer (some ⟨b1, o1, none⟩)) w := run_arrayAt 25 _ 32 Tryd.underlying25 _ 32 c1 (Nat.le_refl _); have r0 := r0.later hb1 r0.lt; have hbw1 := hb0.trans (hb1.mono hb0.size); clear hb0 hb1 hsl1))
  refine Lib.hid ?_
  generalize hw2 : World.setRow _ _ _ = w2
  obtain ⟨r7, hb2⟩ := row_new_set (xs := M) hw2
  have r0 := r0.later hb2 r0.lt
  have hbw2 := hbw1.trans (hb2.mono hbw1.size)
  clear hw2 hb2 hbw1 HR hconv
  generalize w1.heap.size = g7 at *
  have R0 := Lib.hid (show w2.heap[w.heap.size]? = some (.cells K.toArray 25 (0, 0)) from r0)
  have R7 := Lib.hid (show w2.heap[g7]? = some (.cells M.toArray 25 (0, 0)) from r7)
  have hT2 := hT.later hbw2 (Nat.le_refl _)
  go_wp2_with (first
    | (with_reducible refine wpList_load_row rfl 25 (.tmp 2) rfl w.heap.size rfl 25 K.toArray (0, 0) (.array 32 5) R0.out Tryd.underlying25 rfl hszK.out ?_)
    | (with_reducible refine wpList_load_row rfl 25 (.tmp 7) rfl g7 rfl 25 M.toArray (0, 0) (.array 32 5) R7.out Tryd.underlying25 rfl hszM.out ?_)
    | (go_at_call 36; refine (hmk.out _ hT2).mono ?_; rintro e w3 ⟨rfl, hb3⟩; have r0 := r0.later hb3 r0.lt; have r7 := r7.later hb3 r7.lt; have hbw3 := hbw2.trans (hb3.mono hbw2.size); clear hb3 hbw2)
    | (with_reducible refine wpList_store_row rfl 25 (.tmp 9) (.tmp 27) rfl w3.heap.size V.toArray rfl rfl 25 _ (heap_alloc_new w3 _) hszV.out (Eq.trans (by kernel_rfl) h32V.out) honeV.out ?_; refine Hid.out ?_))
  refine Lib.hid ?_
  generalize hw4 : World.setRow _ _ _ = w4
  obtain ⟨r9, hb4⟩ := row_new_set (xs := V) hw4
  have r0 := r0.later hb4 r0.lt
  have r7 := r7.later hb4 r7.lt
  have hbw4 := hbw3.trans (hb4.mono hbw3.size)
  clear hw4 hb4 hbw3 R0 R7
  generalize w3.heap.size = g9 at *
  have hslO : Sl w4 (some ⟨g9, 0, none⟩) 32 (byts O) := ⟨Rd.row (ys := []) (by rw [List.append_nil, ← HV.out]; exact r9), by rw [length_byts, HOl.out]; exact Nat.le_refl _, fun h => by cases h⟩
  clear r9
  go_wp2_with fail
  by_cases hEq : O = D
  · have hEQ := Lib.hid (show ∀ w1 A5 c5, Sl w1 (some ⟨g9, 0, none⟩) 32 (byts O) → Sl w1 A5 c5 (byts D) → Calls Tryd.prog 37 #[.slice (some ⟨g9, 0, none⟩) 32 32, .slice A5 D.length c5] w1 fun e w' => e = .returned (.bool true) ∧ w1 = w' from fun w1 A5 c5 h1 h2 => by
      have := equal_any (some ⟨g9, 0, none⟩) 32 32 O A5 D.length c5 D w1 h1 HOl.out.symm h2 rfl (by rw [HOl.out]; decide) (by rw [HDl.out]; decide)
      rwa [decide_eq_true hEq] at this)
    have hL := Lib.hid (hL.out.trans (if_pos hEq))
    refine wp_region_noPanic ?_
    refine wp_region_held_drew (S := fun w' => Below w4.heap.size w4 w') (by kernel_rfl) ((Below.refl _ _).drew) (fun hHeld => ?_)
    refine rt 0 28 hHeld ?_
    refine rt 1 29 hHeld ?_
    refine rt 2 30 hHeld ?_
    refine rt 3 31 hHeld ?_
    refine rc1 4 fun K hK => ?_
    refine step_conv_string (some 32) rfl (by rfl) (.tmp 31) rfl D rfl ?_; intro A5 c5 w5 hsl5 hb5; have hq5 := hHeld.trans (hb5.mono hHeld.size)
    refine rk hK (hq5) fun hHeld => ?_
    clear hK K
    refine rc1 5 fun K hK => ?_
    go_simp
    refine (hEQ.out _ _ _ (hslO.later (Nat.le_refl _) hq5) hsl5).mono ?_; rintro e w6 ⟨rfl, rfl⟩
    try go_wp2_with fail
    refine hK.out _ _ hHeld (fun _ => ?_)
    clear hK K
    refine rt 6 34 hHeld ?_
    refine wpAnyH_done (by kernel_rfl) ?_ _
    refine NoPanic.normal ?_
    have hb5 := hbw4.trans (hq5.mono hbw4.size)
    have R0 := Lib.hid (show w5.heap[w.heap.size]? = some (.cells K.toArray 25 (0, 0)) from r0.later hq5 r0.lt)
    have R7 := Lib.hid (show w5.heap[g7]? = some (.cells M.toArray 25 (0, 0)) from r7.later hq5 r7.lt)
    have hT5 := hT.later hb5 (Nat.le_refl _)
    clear r0 r7 hslO hq5 hsl5 hHeld hbw4
    go_wp2_with (first
      | (with_reducible refine wpList_load_row rfl 25 (.tmp 2) rfl w.heap.size rfl 25 K.toArray (0, 0) (.array 32 5) R0.out Tryd.underlying25 rfl hszK.out ?_)
      | (with_reducible refine wpList_load_row rfl 25 (.tmp 7) rfl g7 rfl 25 M.toArray (0, 0) (.array 32 5) R7.out Tryd.underlying25 rfl hszM.out ?_)
      | (go_at_call 38; refine (htu.out _ hT5).mono ?_; rintro e w9 ⟨rfl, hb9⟩; have hb59 := hb5.trans (hb9.mono hb5.size)))
    go_ret2
    exact ⟨by rw [hL.out]; rfl, hb59⟩
  · have hEQ := Lib.hid (show ∀ w1 A5 c5, Sl w1 (some ⟨g9, 0, none⟩) 32 (byts O) → Sl w1 A5 c5 (byts D) → Calls Tryd.prog 37 #[.slice (some ⟨g9, 0, none⟩) 32 32, .slice A5 D.length c5] w1 fun e w' => e = .returned (.bool false) ∧ w1 = w' from fun w1 A5 c5 h1 h2 => by
      have := equal_any (some ⟨g9, 0, none⟩) 32 32 O A5 D.length c5 D w1 h1 HOl.out.symm h2 rfl (by rw [HOl.out]; decide) (by rw [HDl.out]; decide)
      rwa [decide_eq_false hEq] at this)
    have hL := Lib.hid (hL.out.trans (if_neg hEq))
    refine wp_region_noPanic ?_
    refine wp_region_held_drew (S := fun w' => Below w4.heap.size w4 w') (by kernel_rfl) ((Below.refl _ _).drew) (fun hHeld => ?_)
    refine rt 0 28 hHeld ?_
    refine rt 1 29 hHeld ?_
    refine rt 2 30 hHeld ?_
    refine rt 3 31 hHeld ?_
    refine rc1 4 fun K hK => ?_
    refine step_conv_string (some 32) rfl (by rfl) (.tmp 31) rfl D rfl ?_; intro A5 c5 w5 hsl5 hb5; have hq5 := hHeld.trans (hb5.mono hHeld.size)
    refine rk hK (hq5) fun hHeld => ?_
    clear hK K
    refine rc1 5 fun K hK => ?_
    go_simp
    refine (hEQ.out _ _ _ (hslO.later (Nat.le_refl _) hq5) hsl5).mono ?_; rintro e w6 ⟨rfl, rfl⟩
    try go_wp2_with fail
    refine hK.out _ _ hHeld (fun _ => ?_)
    clear hK K
    refine rt 6 34 hHeld ?_
    refine wpAnyH_done (by kernel_rfl) ?_ _
    refine NoPanic.normal ?_
    have hb5 := hbw4.trans (hq5.mono hbw4.size)
    clear r0 r7 hslO hq5 hsl5 hHeld hbw4
    go_wp2
    go_ret2
    exact ⟨by rw [hL.out]; rfl, hb5⟩
end Go.Proofs.YtcbilopdeiapjaaDoor
