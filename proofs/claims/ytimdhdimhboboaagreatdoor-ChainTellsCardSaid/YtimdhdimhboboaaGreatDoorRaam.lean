/- Texts of this claim, one behind the other. -/
import Derived.Test.YtimdhdimhboboaaGreatDoorRaal
import Derived.Test.YtimdhdimhboboaaGreatDoorRaai
import Derived.Test.YtimdhdimhboboaaGreatDoorRaab
import Derived.Test.YtimdhdimhboboaaGreatDoorRaah
import Derived.Test.YtimdhdimhboboaaGreatDoorRaaa
import Derived.SliceStrings
import Derived.Test.YtimdhdimhboboaaGreatDoorRaaf
import Derived.Laws.Cover1
import Derived.Laws.Externs
import Derived.Lib.SplitLaws
import Derived.Laws.FloatArith
import Derived.Laws.Cover2
import Derived.Deep.DeepCutAuto
import Derived.Test.YtimdhdimhboboaaGreatDoorRaak
/- LAYER 19: package chain: Add. -/
namespace Go.Proofs.YtimdhdimhboboaaGreatDoor
set_option maxRecDepth 100000
open Go Go.RowKit

set_option maxHeartbeats 8000000 in
theorem jadd_T (t : Tok) (ht : t.Ok) (cv : Cav) (hp : cv.party < 18446744073709551616) (hcv : capC cv ≤ 100000) (hm : t.cavs.length ≤ 1000000) (hft : ({ t with cavs := t.cavs ++ [cv] } : Tok).Fit) (A : Option Addr) (c : Nat) (w : World) (hT : Tabs w) (hs : Sl w A (c * 5) (t.cavs.flatMap cavV)) :
    Calls Tryz.prog 14 #[.agg (tokV t A c).toArray, .agg (cavV cv).toArray] w (GaveTok (addT t cv) (errAdd t cv) w) := by
  obtain ⟨i0, hi, hz0, hsz0, hby0⟩ := info_cav
  obtain ⟨Z, hZ⟩ : ∃ Z, Z = tokV zeroK none 0 := ⟨_, rfl⟩
  have hZl : Z.length = 36 := by rw [hZ]; exact length_tokV zeroK_ok none 0
  have hZe := Lib.hid (hZ.trans ztok)
  have hzZ := Lib.hid (show (Tryz.prog.info? 27).map (·.size) = some Z.toArray.size by rw [List.size_toArray, hZl]; exact size_tok)
  have hZ1 := Lib.hid (show Z.toArray.all (·.oneCell') = true by rw [hZ, List.all_toArray, List.all_eq_true]; exact tokV_one _ _ _)
  obtain ⟨X, hX⟩ : ∃ X, X = tokV t A c := ⟨_, rfl⟩
  have hXl : X.length = 36 := by rw [hX]; exact length_tokV ht A c
  have hzX2 := Lib.hid (show (Tryz.prog.info? 27).map (·.size) = some X.toArray.size by rw [List.size_toArray, hXl]; exact size_tok)
  obtain ⟨w1, hw1⟩ : ∃ w1, w1 = ((w.alloc (.cells X.toArray 27)).alloc (.cells (cavV cv).toArray 29)).alloc (.cells Z.toArray 27) := ⟨_, rfl⟩
  obtain ⟨r1, r2, r3, hb1, hs1⟩ := rows3 hw1.symm
  have HW := Lib.hid (hw1.trans (by rw [hZe.out]))
  have ts := hs.later (Nat.le_refl _) hb1
  have hc3 : w1.cell? ⟨w.heap.size, 3, none⟩ = some (.bool t.bound) := by rw [r1.cell, hX]; rfl
  have Hcl := Lib.hid (show ∀ w', Sl w' A (c * 5) (t.cavs.flatMap cavV) → Calls Tryz.prog 29 #[.agg X.toArray] w' fun e w'' => ∃ B d, e = .returned (.agg (tokV t B d).toArray) ∧ w''.ownsRow w'.heap.size 29 5 (.slice B t.cavs.length d) t.cavs.length (t.cavs.flatMap cavV) ∧ Below w'.heap.size w' w'' by
    rw [hX]; exact fun w' h => pclone_own t ht hm A c w' h)
  have HZ := Lib.hid hZ
  have HX := Lib.hid hX
  have HTB := Lib.hid hT
  rw [← hX]
  clear hw1 hZ hX hs hT
  have Q3 := Lib.hid (show w1.heap[w.heap.size + 1 + 1]? = some (.cells Z.toArray 27 (0, 0)) from r3)
  have tok1 : True := trivial
  cases hbd : t.bound with
  | true =>
    have HE := Lib.hid (show errAdd t cv = 6 by unfold errAdd; rw [if_pos hbd])
    have HG := Lib.hid (show addT t cv = zeroK by unfold addT; rw [HE.out]; rfl)
    rw [hbd] at hc3
    clear r1 r2 r3 ts hXl hZl Hcl
    generalize addT t cv = U at *
    generalize errAdd t cv = er at *
    go_enter Tryz.func14, Tryz.ntmps14
    go_wp2_with (first
      | (have _t := tok1; rw [← HW.out]; clear tok1)
      | (have _t := Q3; refine wpList_store_row rfl 27 (.tmp 4) (.tmp 10) rfl (w.heap.size + 1 + 1) Z.toArray rfl (by rw [hZe.out]; rfl) 27 Z.toArray Q3.out hzZ.out rfl hZ1.out ?_; refine Hid.out ?_))
    refine Lib.hid ?_
    generalize hw8 : World.setRow _ _ _ = w8
    obtain ⟨r8, hg8⟩ := row_set (show Row w1 (w.heap.size + 1 + 1) 27 Z from Q3.out) hw8
    have hb8 := hb1.grown hg8 hb1.size (fun k h => by cases h; omega)
    have R8 := Lib.hid (show w8.heap[w.heap.size + 1 + 1]? = some (.cells Z.toArray 27 (0, 0)) from r8)
    clear hw8 r8 Q3
    go_wp2_with fail
    exact ⟨rfl, _, results_row_tmp rfl _ _ (w.heap.size + 1 + 1) 27 Z.toArray (0, 0) _ rfl R8.out Tryz.underlying27 rfl hzZ.out _ rfl, none, 0, by rw [HE.out, HG.out, HZ.out]; rfl, by rw [HG.out]; exact sl_zeroK _, (fun a h => by cases h), hb8⟩
  | false =>
    rw [hbd] at hc3
    have R1 := Lib.hid (show w1.heap[w.heap.size]? = some (.cells X.toArray 27 (0, 0)) from r1)
    have Hnx := Lib.hid (jnext_T t.tag ht.tag cv hp hcv)
    have n1 : t.cavs.length + 1 ≤ maxLen := by unfold maxLen; omega
    have n2 : (t.cavs.length + 1) * 64 ≤ 140737488355328 := by omega
    have hmo : (moreT t cv).Ok := moreT_ok ht hp
    have hto : ({ t with cavs := t.cavs ++ [cv] } : Tok).Ok := ⟨hmo.key, hmo.party, ht.tag⟩
    have hsc := Lib.hid (show (Tryz.prog.info? 29).map (·.size) = some (cavV cv).length from size_cav)
    have HER := Lib.hid (show errAdd t cv = errT ({ t with cavs := t.cavs ++ [cv] } : Tok) by unfold errAdd; rw [if_neg (by rw [hbd]; decide)]; rfl)
    have HEC := Lib.hid (show errAdd t cv = if checkT (moreT t cv) = true then 0 else 1 by unfold errAdd; rw [if_neg (by rw [hbd]; decide)])
    have HG := Lib.hid (show addT t cv = if errAdd t cv = 0 then moreT t cv else zeroK from rfl)
    go_enter Tryz.func14, Tryz.ntmps14
    go_wp2_with (first
      | (have _t := tok1; rw [← HW.out]; clear tok1)
      | (with_reducible refine wpList_load_row rfl 27 (.tmp 2) rfl w.heap.size rfl 27 X.toArray (0, 0) _ R1.out Tryz.underlying27 rfl hzX2.out ?_)
      | (go_at_call 29; refine (Hcl.out _ ts).mono ?_; rintro e w2 ⟨B, d, rfl, own2, hq⟩; have hYl := length_tokV ht B d; have hzY := Lib.hid (show (Tryz.prog.info? 27).map (·.size) = some (tokV t B d).toArray.size by rw [List.size_toArray, hYl]; exact size_tok); have h36 := Lib.hid (show 36 = (tokV t B d).toArray.size by rw [List.size_toArray, hYl]); have hY1 := Lib.hid (show (tokV t B d).toArray.all (·.oneCell') = true by rw [List.all_toArray, List.all_eq_true]; exact tokV_one _ _ _); clear hYl)
      | (have _t := hzY; with_reducible refine wpList_store_row rfl 27 (.tmp 6) (.tmp 12) rfl w2.heap.size (tokV t B d).toArray rfl rfl 27 _ (heap_alloc_new w2 _) hzY.out (Eq.trans (by kernel_rfl) h36.out) hY1.out ?_; refine Hid.out ?_))
    refine Lib.hid ?_
    generalize hw3 : World.setRow _ _ _ = w3
    obtain ⟨r6, hb3⟩ := row_new_set (xs := tokV t B d) hw3
    have hOB := Lib.hid (fun j hj => own2.lt j hj)
    have own := ownk_later own2 hb3 (Nat.le_refl _)
    have hq13 := hq.trans (hb3.mono hq.size)
    have r1 := r1.later hq13 r1.lt
    have r2 := r2.later hq13 r2.lt
    have r3 := r3.later hq13 r3.lt
    have hbw := hb1.trans (hq13.mono hb1.size)
    have h16 := hq.size
    have h63 := r6.lt
    have h13 := hq13.size
    clear hw3 hb3 hq hq13 hb1 own2 R1 HW hc3 Q3 ts Hcl hzY h36 hY1
    generalize hG1 : w1.heap.size = g1 at *
    generalize hG6 : w2.heap.size = g6 at *
    have hc2 : w3.cell? ⟨g6, 2, none⟩ = some (.slice B t.cavs.length d) := by rw [r6.cell]; rfl
    have K2 := Lib.hid (row_range r2)
    have hs1 := Lib.hid hs1
    have h16 := Lib.hid h16
    have h63 := Lib.hid h63
    have h13 := Lib.hid h13
    clear hG1 hG6
    go_wp2_with (first
      | (with_reducible refine wpList_load_mid rfl 29 (.tmp 3) rfl (w.heap.size + 1) 0 rfl (cavV cv) _ K2.out Tryz.underlying29 rfl hsc.out ?_)
      | (refine wpList_slice19 rfl 25 1 [_] rfl [(0, .agg (cavV cv).toArray)] rfl _ (slice_oneC cv w3) ?_; refine Hid.out ?_))
    refine Lib.hid ?_
    have hb4 := (Below.refl w3.heap.size w3).alloc (Nat.le_refl _) (.cells (cavV cv).toArray 29)
    have s4 : Sl (w3.alloc (.cells (cavV cv).toArray 29)) (some ⟨w3.heap.size, 0, none⟩) (1 * 5) (cavV cv) := sl_made (cavV cv) rfl 5 rfl
    generalize w3.alloc (.cells (cavV cv).toArray 29) = w4 at *
    have own := ownk_later own hb4 (Nat.le_refl _)
    have r1 := r1.later hb4 r1.lt
    have r2 := r2.later hb4 r2.lt
    have r3 := r3.later hb4 r3.lt
    have r6 := r6.later hb4 r6.lt
    have hbw := hbw.trans (hb4.mono hbw.size)
    have h14 : g1 ≤ w4.heap.size := Nat.le_trans h13.out hb4.size
    have h64 := Lib.hid (Nat.lt_of_lt_of_le h63.out hb4.size)
    clear hb4 K2 hc2
    go_wp2_with (at_builtin; refine wpList_append_one rfl (.tmp 14) (.tmp 16) 25 rfl g1 29 i0 _ 5 64 Tryz.underlying25 hi hz0 hsz0 (by omega) hby0 rfl _ t.cavs.length (t.cavs.flatMap cavV) rfl own ⟨w3.heap.size, 0, none⟩ 1 (cavV cv) rfl rfl s4 (cavV_one1 cv) n1 n2 h14 ?_; intro v5 w5 own5 hg5 hnew5; obtain ⟨B5, d5, rfl, -, s5⟩ := Sl.of_ownk own5; refine Hid.out ?_)
    refine Lib.hid ?_
    have hfr5 := ownk_fresh own5
    have e1 := hs1.out
    have e2 := h16.out
    have e3 := h64.out
    have hne6 : ∀ a, B5 = some a → a.block ≠ g6 := fun a ha => by
      rcases hnew5 a.block (by rw [ha]; rfl) with h | h
      · have := (hOB.out a.block h).2; omega
      · omega
    have r6 := Row.kept r6 hg5 (fun k hk e => by have := (hOB.out k hk).2; omega)
    have r1 := Row.kept r1 hg5 (fun k hk e => by have := (hOB.out k hk).1; omega)
    have r2 := Row.kept r2 hg5 (fun k hk e => by have := (hOB.out k hk).1; omega)
    have r3 := Row.kept r3 hg5 (fun k hk e => by have := (hOB.out k hk).1; omega)
    have hbw := hbw.grown hg5 hbw.size (fun k hk => by have := (hOB.out k hk).1; omega)
    have hcc : w5.cell? ⟨g6, 2, none⟩ = some (.slice B t.cavs.length d) := by rw [r6.cell]; rfl
    have hff := r6.free 2
    have hgs := grown_setCell w5 g6 2 (Value.slice B5 (t.cavs.length + 1) d5)
    have r6 : Row (w5.setCell ⟨g6, 2, none⟩ (Value.slice B5 (t.cavs.length + 1) d5)) g6 27 (tokV ({ t with cavs := t.cavs ++ [cv] } : Tok) B5 d5) := (tok_more t cv B B5 d d5) ▸ r6.set 2 (Value.slice B5 (t.cavs.length + 1) d5)
    have r1 := r1.grown hgs (by omega)
    have r2 := r2.grown hgs (by omega)
    have r3 := r3.grown hgs (by omega)
    have s6 := s6flat (s5.apart hgs (fun _ a ha => hne6 a ha))
    have hbs := hbw.grown hgs hbw.size (fun k h => by cases h; omega)
    have hck := Lib.hid (fun w' h => pcheck_any ({ t with cavs := t.cavs ++ [cv] } : Tok) hto hft B5 d5 w' h)
    rw [← HER.out] at hck
    have hput := Lib.hid (show splice (tokV ({ t with cavs := t.cavs ++ [cv] } : Tok) B5 d5) 4 (byts (nextT t.tag cv)) = tokV (moreT t cv) B5 d5 from tok_put_tag _ B5 d5 _ hto (length_nextT _ _))
    have hYl : (tokV ({ t with cavs := t.cavs ++ [cv] } : Tok) B5 d5).length = 36 := length_tokV hto B5 d5
    have hzY := Lib.hid (show (Tryz.prog.info? 27).map (·.size) = some (tokV ({ t with cavs := t.cavs ++ [cv] } : Tok) B5 d5).toArray.size by rw [List.size_toArray, hYl]; exact size_tok)
    have hnl := tag_fit _ (length_nextT t.tag cv)
    have hfit := Lib.hid (show 4 + (byts (nextT t.tag cv)).length ≤ (tokV ({ t with cavs := t.cavs ++ [cv] } : Tok) B5 d5).length by rw [hnl, hYl]; exact Nat.le_refl _)
    obtain ⟨V, hV⟩ : ∃ V, V = tokV (moreT t cv) B5 d5 := ⟨_, rfl⟩
    have hVl : V.length = 36 := by rw [hV]; exact length_tokV hmo B5 d5
    have hzV := Lib.hid (show (Tryz.prog.info? 27).map (·.size) = some V.toArray.size by rw [List.size_toArray, hVl]; exact size_tok)
    have hV1 := Lib.hid (show V.toArray.all (·.oneCell') = true by rw [hV, List.all_toArray, List.all_eq_true]; exact tokV_one _ _ _)
    have hVZ := Lib.hid (show Z.toArray.size = V.toArray.size by rw [List.size_toArray, List.size_toArray, hVl, hZl])
    have HV := Lib.hid hV
    rw [← hV] at hput
    have hfr := Lib.hid (show ∀ a, B5 = some a → w.heap.size + 2 < a.block ∧ a.block ≠ g6 from fun a ha => ⟨by have := hfr5 a ha; omega, hne6 a ha⟩)
    have h6g := Lib.hid (show w.heap.size + 2 < g6 by omega)
    clear hV hVl hYl hgs hg5 hnew5 own5 s5 own hfr5 hne6 hOB s4 e1 e2 e3 hs1 h16 h63 h13 h14 h64 hXl hZl hbw
    generalize tokV ({ t with cavs := t.cavs ++ [cv] } : Tok) B5 d5 = Y at *
    have R6 := Lib.hid (show (w5.setCell ⟨g6, 2, none⟩ (Value.slice B5 (t.cavs.length + 1) d5)).heap[g6]? = some (.cells Y.toArray 27 (0, 0)) from r6)
    go_wp2_with (first
      | (with_reducible refine wpList_load_row rfl 27 (.tmp 6) rfl g6 rfl 27 Y.toArray (0, 0) _ R6.out Tryz.underlying27 rfl hzY.out ?_)
      | (go_at_call 30; refine (hck.out _ s6).mono ?_; rintro e w6 ⟨rfl, hq⟩; have r1 := r1.later hq r1.lt; have r2 := r2.later hq r2.lt; have r3 := r3.later hq r3.lt; have r6 := r6.later hq r6.lt; have s6 := s6.later (Nat.le_refl _) hq; have hB := hbs.trans (hq.mono hbs.size); clear hq; refine Hid.out ?_))
    refine Lib.hid ?_
    clear R6 hck hcc hff hbs
    have Q3 := Lib.hid (show w6.heap[w.heap.size + 1 + 1]? = some (.cells Z.toArray 27 (0, 0)) from r3)
    have hnz := Lib.hid (show (Tryz.prog.info? 23).map (·.size) = some (byts (nextT t.tag cv)).length by rw [size_tag, hnl])
    have hone := Lib.hid (byts_one (nextT t.tag cv))
    clear hnl
    generalize addT t cv = U at *
    generalize errAdd t cv = er at *
    generalize hM : moreT t cv = M at *
    have HMS := Lib.hid (show ∀ w', Sl w' B5 (d5 * 5) (({ t with cavs := t.cavs ++ [cv] } : Tok).cavs.flatMap cavV) → Sl w' B5 (d5 * 5) (M.cavs.flatMap cavV) from fun w' h => by rw [← hM]; exact h)
    have K1 := Lib.hid (tok_tag_range (HX.out ▸ r1))
    have K2 := Lib.hid (row_range r2)
    have hkz := Lib.hid (show (Tryz.prog.info? 23).map (·.size) = some (byts t.tag).length by rw [size_tag, tag_fit _ ht.tag])
    clear hM
    generalize nextT t.tag cv = nx at *
    cases hok : checkT M with
    | false =>
      rw [hok] at HEC
      have e1 : er = 1 := HEC.out.trans (if_neg (by decide))
      have e2 : U = zeroK := by rw [HG.out, e1]; rfl
      have hne : (er != 0) = true := by rw [e1]; rfl
      have E2 := Lib.hid e2
      clear e1 e2 HEC HG HER r1 r2 r6 s6 r3
      go_wp2_with (first
        | (have _t := Q3; refine wpList_store_row rfl 27 (.tmp 4) (.tmp 23) rfl (w.heap.size + 1 + 1) Z.toArray rfl (by rw [hZe.out]; rfl) 27 Z.toArray Q3.out hzZ.out rfl hZ1.out ?_; refine Hid.out ?_))
      refine Lib.hid ?_
      generalize hw8 : World.setRow _ _ _ = w8
      obtain ⟨r8, hg8⟩ := row_set (show Row w6 (w.heap.size + 1 + 1) 27 Z from Q3.out) hw8
      have hb8 := hB.grown hg8 hB.size (fun k h => by cases h; omega)
      have R8 := Lib.hid (show w8.heap[w.heap.size + 1 + 1]? = some (.cells Z.toArray 27 (0, 0)) from r8)
      clear hw8 r8 Q3
      go_wp2_with fail
      exact ⟨rfl, _, results_row_tmp rfl _ _ (w.heap.size + 1 + 1) 27 Z.toArray (0, 0) _ rfl R8.out Tryz.underlying27 rfl hzZ.out _ rfl, none, 0, by rw [E2.out, HZ.out]; rfl, by rw [E2.out]; exact sl_zeroK _, (fun a h => by cases h), hb8⟩
    | true =>
      rw [hok] at HEC
      have e1 : er = 0 := HEC.out.trans (if_pos rfl)
      have e2 : U = M := by rw [HG.out, e1]; rfl
      have hne : (er != 0) = false := by rw [e1]; rfl
      have E1 := Lib.hid e1
      have E2 := Lib.hid e2
      clear e1 e2 HEC HG HER r1 r2 Q3
      have h6 := h6g.out
      go_wp2_with (first
        | (with_reducible refine wpList_load_mid rfl 23 (.tmp 25) rfl w.heap.size 4 rfl (byts t.tag) _ K1.out Tryz.underlying23 rfl hkz.out ?_)
        | (with_reducible refine wpList_load_mid rfl 29 (.tmp 3) rfl (w.heap.size + 1) 0 rfl (cavV cv) _ K2.out Tryz.underlying29 rfl hsc.out ?_)
        | (go_at_call 12; refine (Hnx.out _ (HTB.out.later hB (Nat.le_refl _))).mono ?_; rintro e w7 ⟨rfl, hq⟩; have r6 := r6.later hq r6.lt; have s6 := s6.later (Nat.le_refl _) hq; have r3 := r3.later hq r3.lt; have hB := hB.trans (hq.mono hB.size); clear hq)
        | (have _t := w7; refine wpList_store_mid rfl 23 (.tmp 29) (.tmp 28) rfl g6 4 27 Y (byts nx) rfl rfl r6 hfit.out hnz.out hone.out ?_; intro w9 r6x hg9; refine Hid.out ?_))
      refine Lib.hid ?_
      have r6 : Row w9 g6 27 V := by rw [hput.out] at r6x; exact r6x
      have s6 := s6.apart hg9 (fun _ a ha => (hfr.out a ha).2)
      have r3 := r3.grown hg9 (by omega)
      have hB := hB.grown hg9 hB.size (fun k h => by cases h; omega)
      have K6 := Lib.hid (show w9.heap[g6]? = some (.cells V.toArray 27 (0, 0)) from r6)
      have Q3 := Lib.hid (show w9.heap[w.heap.size + 1 + 1]? = some (.cells Z.toArray 27 (0, 0)) from r3)
      clear r6x hg9 K1 K2 hput hfit hone hnz Hnx hkz hsc hmo hto r3
      go_wp2_with (first
        | (with_reducible refine wpList_load_row rfl 27 (.tmp 6) rfl g6 rfl 27 V.toArray (0, 0) _ K6.out Tryz.underlying27 rfl hzV.out ?_)
        | (have _t := Q3; refine wpList_store_row rfl 27 (.tmp 4) (.tmp 30) rfl (w.heap.size + 1 + 1) V.toArray rfl rfl 27 Z.toArray Q3.out hzV.out hVZ.out hV1.out ?_; refine Hid.out ?_))
      refine Lib.hid ?_
      generalize hw8 : World.setRow _ _ _ = w8
      obtain ⟨r8, hg8⟩ := row_set (show Row w9 (w.heap.size + 1 + 1) 27 Z from Q3.out) hw8
      have hb8 := hB.grown hg8 hB.size (fun k h => by cases h; omega)
      have R8 := Lib.hid (show w8.heap[w.heap.size + 1 + 1]? = some (.cells V.toArray 27 (0, 0)) from r8)
      clear hw8 r8 Q3
      go_wp2_with fail
      exact ⟨rfl, _, results_row_tmp rfl _ _ (w.heap.size + 1 + 1) 27 V.toArray (0, 0) _ rfl R8.out Tryz.underlying27 rfl hzV.out _ rfl, B5, d5, by rw [E2.out, E1.out, HV.out]; rfl, by rw [E2.out]; exact HMS.out _ (s6.apart hg8 (fun _ a ha => by have := (hfr.out a ha).1; omega)), (fun a ha => by have := (hfr.out a ha).1; omega), hb8⟩
end Go.Proofs.YtimdhdimhboboaaGreatDoor

/- LAYER 13: the document's Of. -/
namespace Go.Proofs.YtimdhdimhboboaaGreatDoor
set_option maxRecDepth 100000
open Go Go.RowKit

def zeroR : Rng := ⟨zeroA, 0⟩
theorem zeroR_ok : zeroR.Ok := ⟨zeroA_ok, by decide, by decide⟩
/-- What both Parse answer. -/
def parsR (o : Option Rng) : Value := match o with
  | none => .tuple #[.agg (rngV zeroR).toArray, .bool false]
  | some r => .tuple #[.agg (rngV r).toArray, .bool true]
theorem rngV_one' (r : Rng) : (rngV r).toArray.all (·.oneCell') = true := all_one (rngV_one r)
theorem length_rngV' (r : Rng) (h : r.a.Ok) : (rngV r).length = 18 := by unfold rngV; rw [List.length_append, length_adrV h]; rfl
end Go.Proofs.YtimdhdimhboboaaGreatDoor

/- LAYER 15: the bits of a number with a point, as an odd number and a power of two. No Go function is spoken of here. -/
namespace Go.Proofs.YtimdhdimhboboaaGreatDoor
set_option maxRecDepth 100000
open Go Go.RowKit

/-- A number's odd part, and how many twos are in it. -/
def oddC (m : Nat) : Nat := if h : m = 0 then 0 else if m % 2 = 0 then oddC (m / 2) else m
termination_by m
decreasing_by omega
def twosC (m : Nat) : Nat := if h : m = 0 then 0 else if m % 2 = 0 then twosC (m / 2) + 1 else 0
termination_by m
decreasing_by omega
theorem oddC_even (m : Nat) (h : m ≠ 0) (h2 : m % 2 = 0) : oddC m = oddC (m / 2) := by rw [oddC, dif_neg h, if_pos h2]
theorem oddC_odd (m : Nat) (h2 : m % 2 = 1) : oddC m = m := by rw [oddC, dif_neg (by omega), if_neg (by omega)]
theorem twosC_even (m : Nat) (h : m ≠ 0) (h2 : m % 2 = 0) : twosC m = twosC (m / 2) + 1 := by rw [twosC, dif_neg h, if_pos h2]
theorem twosC_odd (m : Nat) (h2 : m % 2 = 1) : twosC m = 0 := by rw [twosC, dif_neg (by omega), if_neg (by omega)]
theorem odd_twos (m : Nat) (h : m ≠ 0) : oddC m % 2 = 1 ∧ m = oddC m * 2 ^ twosC m := by
  induction m using Nat.strongRecOn with
  | _ m ih =>
    by_cases h2 : m % 2 = 0
    · obtain ⟨a, b⟩ := ih (m / 2) (by omega) (by omega)
      rw [oddC_even m h h2, twosC_even m h h2]
      refine ⟨a, ?_⟩
      rw [Nat.pow_succ, ← Nat.mul_assoc, ← b]
      omega
    · rw [oddC_odd m (by omega), twosC_odd m (by omega)]
      exact ⟨by omega, by simp⟩
/-- An odd number times a power of two: which they are. -/
theorem odd_of (m : Nat) (hm : m % 2 = 1) : ∀ k, oddC (m * 2 ^ k) = m ∧ twosC (m * 2 ^ k) = k := by
  intro k
  induction k with
  | zero => rw [Nat.pow_zero, Nat.mul_one]; exact ⟨oddC_odd m hm, twosC_odd m hm⟩
  | succ k ih =>
    have e : m * 2 ^ (k + 1) = 2 * (m * 2 ^ k) := by rw [Nat.pow_succ, ← Nat.mul_assoc, Nat.mul_comm]
    have hp : 0 < m * 2 ^ k := Nat.mul_pos (by omega) (Nat.pow_pos (by omega))
    rw [e]
    generalize m * 2 ^ k = n at *
    rw [oddC_even _ (by omega) (by omega), twosC_even _ (by omega) (by omega), show 2 * n / 2 = n by omega]
    exact ⟨ih.1, by rw [ih.2]⟩
/-- The significand and the power of a number's bits (without its sign), as whole numbers: M times 2 to P. -/
def sigC (a : Nat) : Nat := if a / 2 ^ 52 > 0 then a % 2 ^ 52 + 2 ^ 52 else a % 2 ^ 52
def powC (a : Nat) : Int := if a / 2 ^ 52 > 0 then (a / 2 ^ 52 : Nat) - 1075 else -1074
/-- Such bits are those of a number that is neither 0, nor infinite, nor none. -/
def FinC (a : Nat) : Prop := 0 < a ∧ a < 2047 * 2 ^ 52
theorem sig_pos (a : Nat) (h : FinC a) : 0 < sigC a := by
  obtain ⟨h1, h2⟩ := h
  unfold sigC
  split <;> omega
/-- The bits of M times 2 to P. -/
def bitsC (M : Nat) (P : Int) : Nat := if M < 2 ^ 52 then M else (P + 1075).toNat * 2 ^ 52 + M - 2 ^ 52
/-- M and P are what some bits have. -/
def FitC (M : Nat) (P : Int) : Prop := (0 < M ∧ M < 2 ^ 52 ∧ P = -1074) ∨ (2 ^ 52 ≤ M ∧ M < 2 ^ 53 ∧ -1074 ≤ P ∧ P ≤ 971)
theorem fit_of (a : Nat) (h : FinC a) : FitC (sigC a) (powC a) ∧ bitsC (sigC a) (powC a) = a := by
  obtain ⟨h1, h2⟩ := h
  by_cases h0 : a / 2 ^ 52 > 0
  · have e1 : sigC a = a % 2 ^ 52 + 2 ^ 52 := if_pos h0
    have e2 : powC a = (a / 2 ^ 52 : Nat) - 1075 := if_pos h0
    rw [e1, e2]
    refine ⟨.inr ⟨by omega, by omega, by omega, by omega⟩, ?_⟩
    unfold bitsC
    rw [if_neg (by omega), show (((a / 2 ^ 52 : Nat) : Int) - 1075 + 1075).toNat = a / 2 ^ 52 by omega]
    omega
  · have e1 : sigC a = a % 2 ^ 52 := if_neg h0
    have e2 : powC a = -1074 := if_neg h0
    rw [e1, e2]
    refine ⟨.inl ⟨by omega, by omega, rfl⟩, ?_⟩
    unfold bitsC
    rw [if_pos (by omega)]
    omega
theorem fit_back (M : Nat) (P : Int) (h : FitC M P) : FinC (bitsC M P) ∧ sigC (bitsC M P) = M ∧ powC (bitsC M P) = P := by
  rcases h with ⟨h1, h2, rfl⟩ | ⟨h1, h2, h3, h4⟩
  · have e : bitsC M (-1074) = M := if_pos h2
    rw [e]
    refine ⟨⟨h1, by omega⟩, ?_, ?_⟩
    · unfold sigC; rw [if_neg (by omega)]; omega
    · unfold powC; rw [if_neg (by omega)]
  · have e : bitsC M P = (P + 1075).toNat * 2 ^ 52 + M - 2 ^ 52 := if_neg (by omega)
    rw [e]
    generalize hE : (P + 1075).toNat = E at *
    have hE1 : 1 ≤ E ∧ E ≤ 2046 := by omega
    have hd : (E * 2 ^ 52 + M - 2 ^ 52) / 2 ^ 52 = E := by omega
    have hm : (E * 2 ^ 52 + M - 2 ^ 52) % 2 ^ 52 = M - 2 ^ 52 := by omega
    refine ⟨⟨by omega, by omega⟩, ?_, ?_⟩
    · unfold sigC; rw [hd, hm, if_pos (by omega)]; omega
    · unfold powC; rw [hd, if_pos (by omega)]; omega
/-- Two ways to write a number as an odd one times a power of two, fitted: the bits are one. -/
theorem fit_one (m : Nat) (k1 k2 : Nat) (p : Int) (h1 : FitC (m * 2 ^ k1) (p - k1)) (h2 : FitC (m * 2 ^ k2) (p - k2)) : k1 = k2 := by
  have key : ∀ a b : Nat, a < b → FitC (m * 2 ^ a) (p - a) → FitC (m * 2 ^ b) (p - b) → False := by
    intro a b hab ha hb
    have e : m * 2 ^ b = 2 * (m * 2 ^ a * 2 ^ (b - a - 1)) := by
      rw [Nat.mul_assoc, ← Nat.pow_add, show b = (a + (b - a - 1)) + 1 by omega, Nat.pow_succ]
      rw [show a + (b - a - 1) + 1 - a - 1 = b - a - 1 by omega]
      rw [← Nat.mul_assoc, Nat.mul_comm]
    have hp : 1 ≤ 2 ^ (b - a - 1) := Nat.one_le_two_pow
    have hge : m * 2 ^ a ≤ m * 2 ^ a * 2 ^ (b - a - 1) := Nat.le_mul_of_pos_right _ hp
    generalize m * 2 ^ a * 2 ^ (b - a - 1) = X at *
    generalize m * 2 ^ a = A at *
    rw [e] at hb
    rcases ha with ⟨_, _, a3⟩ | ⟨a1, a2, a3, a4⟩
    · rcases hb with ⟨_, _, b3⟩ | ⟨_, _, b3, _⟩ <;> omega
    · rcases hb with ⟨_, b2, _⟩ | ⟨_, b2, _, _⟩ <;> omega
  rcases Nat.lt_trichotomy k1 k2 with h | h | h
  · exact (key k1 k2 h h1 h2).elim
  · exact h
  · exact (key k2 k1 h h2 h1).elim
/-- Doubled, as long as it is small and its power not the least. -/
def upC : Nat → Nat → Int → Nat × Int
  | 0, m, p => (m, p)
  | f + 1, m, p => if m < 2 ^ 52 ∧ -1074 < p then upC f (2 * m) (p - 1) else (m, p)
theorem up_spec : ∀ (f m : Nat) (p : Int), 0 < m → -1074 ≤ p → 2 ^ 52 ≤ m * 2 ^ f →
    ∃ k : Nat, upC f m p = (m * 2 ^ k, p - k) ∧ (k = 0 ∨ m * 2 ^ k < 2 ^ 53) ∧ -1074 ≤ p - k ∧ ¬ (m * 2 ^ k < 2 ^ 52 ∧ -1074 < p - k) := by
  intro f
  induction f with
  | zero =>
    intro m p hm hp hf
    rw [Nat.pow_zero, Nat.mul_one] at hf
    exact ⟨0, by simp [upC], .inl rfl, by omega, by simp; omega⟩
  | succ f ih =>
    intro m p hm hp hf
    rw [upC]
    by_cases h : m < 2 ^ 52 ∧ -1074 < p
    · rw [if_pos h]
      have hf2 : 2 ^ 52 ≤ 2 * m * 2 ^ f := by
        have e : m * 2 ^ (f + 1) = 2 * m * 2 ^ f := by rw [Nat.pow_succ, ← Nat.mul_assoc, Nat.mul_comm, ← Nat.mul_assoc]
        rw [← e]; exact hf
      obtain ⟨k, h1, h2, h3, h4⟩ := ih (2 * m) (p - 1) (by omega) (by omega) hf2
      have e : m * 2 ^ (k + 1) = 2 * m * 2 ^ k := by rw [Nat.pow_succ, ← Nat.mul_assoc, Nat.mul_comm, ← Nat.mul_assoc]
      refine ⟨k + 1, ?_, .inr ?_, by omega, ?_⟩
      · rw [h1, e]; congr 1; omega
      · rw [e]
        rcases h2 with h2 | h2
        · subst h2; simp; omega
        · exact h2
      · rw [e]; intro h5; exact h4 ⟨h5.1, by omega⟩
    · rw [if_neg h]
      exact ⟨0, by simp, .inl rfl, by omega, by simpa using h⟩
/-- The bits of an odd number times a power of two, if they are some number's. -/
def ofC (m : Nat) (p : Int) : Option Nat :=
  if m % 2 = 0 ∨ 2 ^ 53 ≤ m ∨ p < -1074 ∨ 1023 < p then none
  else if 971 < (upC 52 m p).2 then none else some (bitsC (upC 52 m p).1 (upC 52 m p).2)
theorem ofC_iff (m : Nat) (p : Int) (a : Nat) : ofC m p = some a ↔ FinC a ∧ oddC (sigC a) = m ∧ powC a + twosC (sigC a) = p := by
  unfold ofC
  constructor
  · intro h
    split at h
    · cases h
    · rename_i hg
      have hm : m % 2 = 1 := by omega
      obtain ⟨k, h1, h2, h3, h4⟩ := up_spec 52 m p (by omega) (by omega) (Nat.le_mul_of_pos_left _ (by omega))
      rw [h1] at h
      split at h
      · cases h
      · rename_i h5
        have h5 : ¬ 971 < p - (k : Int) := h5
        cases h
        have hM : m * 2 ^ k < 2 ^ 53 := by
          rcases h2 with h2 | h2
          · subst h2; simp; omega
          · exact h2
        have hp : 0 < m * 2 ^ k := Nat.mul_pos (by omega) (Nat.pow_pos (by omega))
        have hfit : FitC (m * 2 ^ k) (p - k) := by
          by_cases hs : m * 2 ^ k < 2 ^ 52
          · exact .inl ⟨hp, hs, by omega⟩
          · exact .inr ⟨by omega, hM, h3, by omega⟩
        obtain ⟨f1, f2, f3⟩ := fit_back _ _ hfit
        refine ⟨f1, ?_, ?_⟩
        · show oddC (sigC (bitsC (m * 2 ^ k) (p - k))) = m
          rw [f2, (odd_of m hm k).1]
        · show powC (bitsC (m * 2 ^ k) (p - k)) + (twosC (sigC (bitsC (m * 2 ^ k) (p - k))) : Nat) = p
          rw [f2, f3, (odd_of m hm k).2]; omega
  · rintro ⟨hf, hm, hp⟩
    have hs := sig_pos a hf
    obtain ⟨o1, o2⟩ := odd_twos (sigC a) (by omega)
    obtain ⟨g1, g2⟩ := fit_of a hf
    rw [hm] at o1 o2
    generalize ht : twosC (sigC a) = t at *
    have hsl : sigC a < 2 ^ 53 := by
      rcases g1 with ⟨_, h, _⟩ | ⟨_, h, _, _⟩ <;> omega
    have hpow : -1074 ≤ powC a ∧ powC a ≤ 971 := by
      rcases g1 with ⟨_, _, h⟩ | ⟨_, _, h, h'⟩ <;> omega
    have ht52 : t ≤ 52 := by
      by_cases hlt : t ≤ 52
      · exact hlt
      · exfalso
        have : 2 ^ 53 ≤ 2 ^ t := Nat.pow_le_pow_right (by omega) (by omega)
        have : 2 ^ t ≤ m * 2 ^ t := Nat.le_mul_of_pos_left _ (by omega)
        omega
    have hmle : m ≤ m * 2 ^ t := Nat.le_mul_of_pos_right _ (Nat.pow_pos (by omega))
    rw [if_neg (by omega)]
    obtain ⟨k, h1, h2, h3, h4⟩ := up_spec 52 m p (by omega) (by omega) (Nat.le_mul_of_pos_left _ (by omega))
    rw [h1]
    have hM : m * 2 ^ k < 2 ^ 53 := by
      rcases h2 with h2 | h2
      · subst h2; simp; omega
      · exact h2
    have hP : ¬ 971 < p - (k : Int) := by
      intro h5
      have hk : k < t := by omega
      have e : m * 2 ^ t = 2 * (m * 2 ^ k * 2 ^ (t - k - 1)) := by
        rw [Nat.mul_assoc, ← Nat.pow_add, show t = (k + (t - k - 1)) + 1 by omega, Nat.pow_succ]
        rw [show k + (t - k - 1) + 1 - k - 1 = t - k - 1 by omega]
        rw [← Nat.mul_assoc, Nat.mul_comm]
      have hge : m * 2 ^ k ≤ m * 2 ^ k * 2 ^ (t - k - 1) := Nat.le_mul_of_pos_right _ (Nat.pow_pos (by omega))
      generalize m * 2 ^ k * 2 ^ (t - k - 1) = X at *
      omega
    rw [if_neg hP]
    have hp0 : 0 < m * 2 ^ k := Nat.mul_pos (by omega) (Nat.pow_pos (by omega))
    have hfit : FitC (m * 2 ^ k) (p - k) := by
      by_cases hs : m * 2 ^ k < 2 ^ 52
      · exact .inl ⟨hp0, hs, by omega⟩
      · exact .inr ⟨by omega, hM, h3, by omega⟩
    have hfit2 : FitC (m * 2 ^ t) (p - t) := by rw [← o2, show p - (t : Int) = powC a by omega]; exact g1
    have hkt := fit_one m k t p hfit hfit2
    subst hkt
    show some (bitsC (m * 2 ^ k) (p - k)) = some a
    rw [← o2, show p - (k : Int) = powC a by omega, g2]
end Go.Proofs.YtimdhdimhboboaaGreatDoor

/- LAYER 15: texts of numbers with a point, as lists over their bits. No Go function is spoken of here. -/
namespace Go.Proofs.YtimdhdimhboboaaGreatDoor
set_option maxRecDepth 100000
open Go Go.RowKit

/-- Parts of bits: whether the sign is set, the odd number, the power. -/
def magC (b : Nat) : Nat := b % 2 ^ 63
def negC (b : Nat) : Bool := decide (b / 2 ^ 63 = 1)
def nanC (b : Nat) : Bool := decide (2047 * 2 ^ 52 < magC b)
def intL (p : Int) : List UInt8 := if p < 0 then 45 :: numL 10 p.natAbs else numL 10 p.natAbs
/-- The text of what has no sign. -/
def bodyC (a : Nat) : List UInt8 :=
  if a = 0 then [48] else if a = 2047 * 2 ^ 52 then [105, 110, 102]
  else numL 10 (oddC (sigC a)) ++ 112 :: intL (powC a + twosC (sigC a))
def textC (b : Nat) : List UInt8 := if nanC b then [] else (if negC b then [45] else []) ++ bodyC (magC b)
def parseI (t : List UInt8) : Option Int :=
  match t with
  | 45 :: r => if r = [] ∨ r = [48] then (valueL 10 4 (45 :: r)).map fun n : Nat => (n : Int) else (valueL 10 4 r).map fun n : Nat => -(n : Int)
  | _ => (valueL 10 4 t).map fun n : Nat => (n : Int)
/-- A text up to the first 'p', and behind it. -/
def cutP : List UInt8 → Option (List UInt8 × List UInt8)
  | [] => none
  | c :: s => if c = 112 then some ([], s) else (cutP s).map fun x => (c :: x.1, x.2)
def magP (s : List UInt8) : Option Nat :=
  match cutP s with
  | none => none
  | some x => match valueL 10 16 x.1, parseI x.2 with
    | some m, some p => ofC m p
    | _, _ => none
def bodyP (s : List UInt8) : Option Nat := if s = [48] then some 0 else if s = [105, 110, 102] then some (2047 * 2 ^ 52) else magP s
def parseC (s : List UInt8) : Option Nat :=
  match s with
  | 45 :: r => (bodyP r).map (2 ^ 63 + ·)
  | _ => bodyP s
theorem cutP_at (t u : List UInt8) (h : (112 : UInt8) ∉ t) : cutP (t ++ 112 :: u) = some (t, u) := by
  induction t with
  | nil => rfl
  | cons c t ih =>
    rw [List.cons_append, cutP, if_neg (fun e => h (by rw [e]; exact List.mem_cons_self ..)), ih (fun hm => h (List.mem_cons_of_mem _ hm))]
    rfl
theorem cutP_some (s t u : List UInt8) (h : cutP s = some (t, u)) : s = t ++ 112 :: u := by
  induction s generalizing t u with
  | nil => cases h
  | cons c s ih =>
    rw [cutP] at h
    split at h
    · rename_i e
      cases h
      rw [e]; rfl
    · cases hc : cutP s with
      | none => rw [hc] at h; cases h
      | some x =>
        rw [hc] at h
        cases h
        rw [ih x.1 x.2 hc]; rfl
theorem hexD_dec9 : ∀ i : Nat, i < 10 → hexD i ≠ 45 ∧ hexD i ≠ 112 ∧ hexD i ≠ 105 := by
  intro i hi
  have : i = 0 ∨ i = 1 ∨ i = 2 ∨ i = 3 ∨ i = 4 ∨ i = 5 ∨ i = 6 ∨ i = 7 ∨ i = 8 ∨ i = 9 := by omega
  rcases this with rfl | rfl | rfl | rfl | rfl | rfl | rfl | rfl | rfl | rfl <;> decide
theorem num10_signs (n : Nat) : ∀ c ∈ numL 10 n, c ≠ 45 ∧ c ≠ 112 ∧ c ≠ 105 := by
  induction n using Nat.strongRecOn with
  | _ n ih =>
    by_cases h : n < 10
    · rw [numL_small 10 n h]
      intro c hc
      rw [List.mem_singleton.1 hc]
      exact hexD_dec9 n h
    · rw [numL_great 10 n (by omega) (by omega)]
      intro c hc
      rcases List.mem_append.1 hc with h1 | h1
      · exact ih (n / 10) (Nat.div_lt_self (by omega) (by omega)) c h1
      · rw [List.mem_singleton.1 h1]
        exact hexD_dec9 _ (Nat.mod_lt _ (by omega))
theorem num10_head (n : Nat) : ∃ c r, numL 10 n = c :: r ∧ c ≠ 45 := by
  cases h : numL 10 n with
  | nil => exact absurd h (numL_ne 10 n)
  | cons c r => exact ⟨c, r, rfl, (num10_signs n c (by rw [h]; exact List.mem_cons_self ..)).1⟩
theorem parseI_other (c : UInt8) (r : List UInt8) (h : c ≠ 45) : parseI (c :: r) = (valueL 10 4 (c :: r)).map fun n : Nat => (n : Int) := by
  unfold parseI
  split
  · rename_i e; injection e with e _; exact absurd e h
  · rfl
/-- A power of up to four digits comes back from its text. -/
theorem parseI_iff (t : List UInt8) (p : Int) : parseI t = some p ↔ intL p = t ∧ (numL 10 p.natAbs).length ≤ 4 := by
  have vi := fun s n => valueL_iff 10 4 (by omega) (by omega) s n
  constructor
  · intro h
    by_cases hc : ∃ r, t = 45 :: r
    · obtain ⟨r, rfl⟩ := hc
      unfold parseI at h
      by_cases hr : r = [] ∨ r = [48]
      · simp only [if_pos hr] at h
        cases hv : valueL 10 4 (45 :: r) with
        | none => rw [hv] at h; cases h
        | some n =>
          obtain ⟨e, -⟩ := (vi _ n).1 hv
          obtain ⟨c, q, e2, hc⟩ := num10_head n
          rw [e2] at e
          injection e with e _
          exact absurd e hc
      · simp only [if_neg hr] at h
        cases hv : valueL 10 4 r with
        | none => rw [hv] at h; cases h
        | some n =>
          rw [hv] at h
          have h : -(n : Int) = p := Option.some.inj h
          obtain ⟨e, hl⟩ := (vi _ n).1 hv
          have hn : n ≠ 0 := by
            rintro rfl
            exact hr (.inr e.symm)
          have hp : p.natAbs = n := by omega
          refine ⟨?_, by rw [hp, e]; exact hl⟩
          unfold intL
          rw [if_pos (by omega), hp, e]
    · have hp : parseI t = (valueL 10 4 t).map fun n : Nat => (n : Int) := by
        cases t with
        | nil => rfl
        | cons c r => exact parseI_other c r fun e => hc ⟨r, by rw [e]⟩
      rw [hp] at h
      cases hv : valueL 10 4 t with
      | none => rw [hv] at h; cases h
      | some n =>
        rw [hv] at h
        have h : (n : Int) = p := Option.some.inj h
        obtain ⟨e, hl⟩ := (vi _ n).1 hv
        have hp : p.natAbs = n := by omega
        refine ⟨?_, by rw [hp, e]; exact hl⟩
        unfold intL
        rw [if_neg (by omega), hp, e]
  · rintro ⟨rfl, hl⟩
    have hv : valueL 10 4 (numL 10 p.natAbs) = some p.natAbs := (vi _ _).2 ⟨rfl, hl⟩
    unfold intL
    by_cases h0 : p < 0
    · rw [if_pos h0]
      unfold parseI
      have hr : ¬ (numL 10 p.natAbs = [] ∨ numL 10 p.natAbs = [48]) := by
        rintro (h | h)
        · exact numL_ne 10 _ h
        · have := numL_inj 10 p.natAbs 0 (by omega) (by omega) (by rw [h]; rfl)
          omega
      simp only [if_neg hr, hv, Option.map_some]
      congr 1
      omega
    · rw [if_neg h0]
      obtain ⟨c, q, e2, hc⟩ := num10_head p.natAbs
      rw [e2] at hv ⊢
      rw [parseI_other c q hc, hv]
      show some ((p.natAbs : Nat) : Int) = some p
      congr 1
      omega
theorem magP_iff (s : List UInt8) (a : Nat) : magP s = some a ↔ FinC a ∧ s = numL 10 (oddC (sigC a)) ++ 112 :: intL (powC a + twosC (sigC a)) := by
  have vi := fun s n => valueL_iff 10 16 (by omega) (by omega) s n
  constructor
  · intro h
    unfold magP at h
    cases hc : cutP s with
    | none => rw [hc] at h; cases h
    | some x =>
      obtain ⟨x1, x2⟩ := x
      rw [hc] at h
      simp only at h
      cases hv : valueL 10 16 x1 with
      | none => rw [hv] at h; cases h
      | some m =>
        cases hp : parseI x2 with
        | none => rw [hv, hp] at h; cases h
        | some p =>
          rw [hv, hp] at h
          obtain ⟨f1, f2, f3⟩ := (ofC_iff m p a).1 h
          refine ⟨f1, ?_⟩
          rw [f2, f3, ((vi _ _).1 hv).1, ((parseI_iff _ _).1 hp).1]
          exact cutP_some _ _ _ hc
  · rintro ⟨hf, rfl⟩
    obtain ⟨g1, -⟩ := fit_of a hf
    obtain ⟨o1, o2⟩ := odd_twos (sigC a) (by have := sig_pos a hf; omega)
    have hle : oddC (sigC a) ≤ oddC (sigC a) * 2 ^ twosC (sigC a) := Nat.le_mul_of_pos_right _ (Nat.pow_pos (by omega))
    have hge : 2 ^ twosC (sigC a) ≤ oddC (sigC a) * 2 ^ twosC (sigC a) := Nat.le_mul_of_pos_left _ (by omega)
    rw [← o2] at hle hge
    have hsl : sigC a < 2 ^ 53 := by
      rcases g1 with ⟨_, h, _⟩ | ⟨_, h, _, _⟩ <;> omega
    have hpow : -1074 ≤ powC a ∧ powC a ≤ 971 := by
      rcases g1 with ⟨_, _, h⟩ | ⟨_, _, h, h'⟩ <;> omega
    have ht : twosC (sigC a) ≤ 52 := by
      by_cases hlt : twosC (sigC a) ≤ 52
      · exact hlt
      · exfalso
        have : 2 ^ 53 ≤ 2 ^ twosC (sigC a) := Nat.pow_le_pow_right (by omega) (by omega)
        omega
    unfold magP
    rw [cutP_at _ _ (fun h => (num10_signs _ _ h).2.1 rfl)]
    simp only
    have hv := (vi (numL 10 (oddC (sigC a))) _).2 ⟨rfl, numL_len 10 (by omega) 15 _ (by omega)⟩
    have hp := (parseI_iff (intL (powC a + twosC (sigC a))) _).2 ⟨rfl, numL_len 10 (by omega) 3 _ (by omega)⟩
    rw [hv, hp]
    exact (ofC_iff _ _ a).2 ⟨hf, rfl, rfl⟩
theorem bodyP_iff (s : List UInt8) (a : Nat) : bodyP s = some a ↔ a ≤ 2047 * 2 ^ 52 ∧ bodyC a = s := by
  unfold bodyP
  constructor
  · intro h
    split at h
    · rename_i e; cases h; exact ⟨by omega, e.symm⟩
    · split at h
      · rename_i e; cases h; exact ⟨by omega, e.symm⟩
      · obtain ⟨⟨f1, f2⟩, f3⟩ := (magP_iff s a).1 h
        refine ⟨by omega, ?_⟩
        unfold bodyC
        rw [if_neg (by omega), if_neg (by omega), f3]
  · rintro ⟨hle, rfl⟩
    unfold bodyC
    by_cases h0 : a = 0
    · rw [if_pos h0, if_pos rfl, h0]
    · rw [if_neg h0]
      by_cases hi : a = 2047 * 2 ^ 52
      · rw [if_pos hi, if_neg (by decide), if_pos rfl, hi]
      · rw [if_neg hi]
        have hmem : (112 : UInt8) ∈ numL 10 (oddC (sigC a)) ++ 112 :: intL (powC a + twosC (sigC a)) := by simp
        rw [if_neg (by intro e; rw [e] at hmem; exact absurd hmem (by decide)), if_neg (by intro e; rw [e] at hmem; exact absurd hmem (by decide))]
        exact (magP_iff _ a).2 ⟨⟨by omega, by omega⟩, rfl⟩
theorem body_head (a : Nat) : ∃ c r, bodyC a = c :: r ∧ c ≠ 45 := by
  unfold bodyC
  split
  · exact ⟨48, [], rfl, by decide⟩
  · split
    · exact ⟨105, [110, 102], rfl, by decide⟩
    · obtain ⟨c, r, e, hc⟩ := num10_head (oddC (sigC a))
      exact ⟨c, r ++ _, by rw [e]; rfl, hc⟩
theorem parseC_other (c : UInt8) (r : List UInt8) (h : c ≠ 45) : parseC (c :: r) = bodyP (c :: r) := by
  unfold parseC
  split
  · rename_i e; injection e with e _; exact absurd e h
  · rfl
/-- The text's number: the one whose text it is. -/
theorem parseC_iff (s : List UInt8) (b : Nat) : parseC s = some b ↔ b < 2 ^ 64 ∧ nanC b = false ∧ textC b = s := by
  constructor
  · intro h
    by_cases hc : ∃ r, s = 45 :: r
    · obtain ⟨r, rfl⟩ := hc
      unfold parseC at h
      simp only at h
      cases hb : bodyP r with
      | none => rw [hb] at h; cases h
      | some a =>
        rw [hb] at h
        have h : 2 ^ 63 + a = b := Option.some.inj h
        obtain ⟨h1, h2⟩ := (bodyP_iff r a).1 hb
        have hm : magC b = a := by unfold magC; omega
        have hn : nanC b = false := by unfold nanC; rw [hm]; exact decide_eq_false (by omega)
        have hg : negC b = true := by unfold negC; exact decide_eq_true (by omega)
        refine ⟨by omega, hn, ?_⟩
        unfold textC
        rw [hn, hg, hm, h2]; rfl
    · have hp : bodyP s = some b := by
        cases s with
        | nil => exact h
        | cons c r => rw [← parseC_other c r (fun e => hc ⟨r, by rw [e]⟩)]; exact h
      obtain ⟨h1, h2⟩ := (bodyP_iff s b).1 hp
      have hm : magC b = b := by unfold magC; omega
      have hn : nanC b = false := by unfold nanC; rw [hm]; exact decide_eq_false (by omega)
      have hg : negC b = false := by unfold negC; exact decide_eq_false (by omega)
      refine ⟨by omega, hn, ?_⟩
      unfold textC
      rw [hn, hg, hm, h2]; rfl
  · rintro ⟨h1, hn, rfl⟩
    have hle : magC b ≤ 2047 * 2 ^ 52 := by
      unfold nanC at hn
      have := of_decide_eq_false hn
      omega
    have hb := (bodyP_iff (bodyC (magC b)) (magC b)).2 ⟨hle, rfl⟩
    unfold textC
    rw [hn]
    cases hg : negC b with
    | true =>
      have : b / 2 ^ 63 = 1 := of_decide_eq_true hg
      show (bodyP (bodyC (magC b))).map (2 ^ 63 + ·) = some b
      rw [hb]
      show some (2 ^ 63 + magC b) = some b
      congr 1
      unfold magC
      omega
    | false =>
      have : ¬ b / 2 ^ 63 = 1 := of_decide_eq_false hg
      show parseC (bodyC (magC b)) = some b
      obtain ⟨c, r, e, hc⟩ := body_head (magC b)
      rw [e] at hb ⊢
      rw [parseC_other c r hc, hb]
      congr 1
      unfold magC
      omega
end Go.Proofs.YtimdhdimhboboaaGreatDoor

/- LAYER 14: paths, as lists. No Go function is spoken of here. -/
namespace Go.Proofs.YtimdhdimhboboaaGreatDoor
set_option maxRecDepth 100000
open Go Go.RowKit

/-- Can a byte be in a name? -/
def signB (c : UInt8) : Bool := decide (97 ≤ c ∧ c ≤ 122) || decide (65 ≤ c ∧ c ≤ 90) || decide (48 ≤ c ∧ c ≤ 57) || c == 46 || c == 95 || c == 45
def nameL (s : List UInt8) : Bool := decide (1 ≤ s.length) && decide (s.length ≤ 64) && decide (s ≠ [46]) && decide (s ≠ [46, 46]) && s.all signB
def rightL : List UInt8 → Bool
  | 47 :: r => decide (r = []) || (decide (r.length + 1 ≤ 256) && (splitL 47 r).all nameL)
  | _ => false
/-! What Normal answers is right, and Normal of it is itself. -/
end Go.Proofs.YtimdhdimhboboaaGreatDoor

/- LAYER 16: words, numbers, names, as lists. No Go function is spoken of here. -/
namespace Go.Proofs.YtimdhdimhboboaaGreatDoor
set_option maxRecDepth 100000
open Go Go.RowKit

/-- Can a byte be in a text of words? -/
def inkB (c : UInt8) : Bool := decide (32 ≤ c.toNat) && decide (c.toNat ≤ 126)
def wordsL (s : List UInt8) : Option (List (List UInt8)) :=
  if s = [] then some [] else if s.length ≤ 512 ∧ s.all inkB = true ∧ (splitL 32 s).all (fun p => decide (p ≠ [])) = true then some (splitL 32 s) else none
def lowB (c : UInt8) : Bool := decide (97 ≤ c.toNat) && decide (c.toNat ≤ 122)
def name16 (s : List UInt8) : Bool := decide (1 ≤ s.length) && decide (s.length ≤ 16) && s.all lowB
/-- Is the name at a place one, and above the one ahead? -/
def okAt (l : List (List UInt8)) (i : Nat) : Bool := name16 (l.getD i []) && (decide (i = 0) || Op.bytesLess (l.getD (i - 1) []) (l.getD i []))
def riseL (l : List (List UInt8)) : Bool := decide (1 ≤ l.length) && decide (l.length ≤ 32) && (List.range l.length).all (okAt l)
def namesC (s : List UInt8) : Option (List (List UInt8)) := if riseL (splitL 44 s) = true then some (splitL 44 s) else none
def numberL (s : List UInt8) : Option Nat := match valueL 10 20 s with
  | none => none
  | some n => if n < 2 ^ 64 then some n else none
theorem riseL_at (l : List (List UInt8)) : riseL l = true ↔ 1 ≤ l.length ∧ l.length ≤ 32 ∧ ∀ i < l.length, okAt l i = true := by
  unfold riseL
  rw [Bool.and_eq_true, Bool.and_eq_true, decide_eq_true_iff, decide_eq_true_iff, List.all_eq_true]
  constructor
  · rintro ⟨⟨h1, h2⟩, h3⟩
    exact ⟨h1, h2, fun i hi => h3 i (List.mem_range.2 hi)⟩
  · rintro ⟨h1, h2, h3⟩
    exact ⟨⟨h1, h2⟩, fun i hi => h3 i (List.mem_range.1 hi)⟩
theorem riseL_bad (l : List (List UInt8)) (i : Nat) (hi : i < l.length) (h : okAt l i = false) : riseL l = false := by
  cases hr : riseL l with
  | false => rfl
  | true => have := ((riseL_at l).1 hr).2.2 i hi; rw [h] at this; cases this
theorem name16_44 (p : List UInt8) (h : name16 p = true) : p ≠ [] ∧ ∀ c ∈ p, c ≠ 44 := by
  unfold name16 at h
  rw [Bool.and_eq_true, Bool.and_eq_true, decide_eq_true_iff, List.all_eq_true] at h
  refine ⟨?_, ?_⟩
  · rintro rfl; have := h.1.1; simp at this
  · rintro c hc rfl
    have := h.2 44 hc
    revert this; decide
theorem numL_len20 (n : Nat) (h : n < 2 ^ 64) : (numL 10 n).length ≤ 20 := by
  have key : ∀ k n : Nat, n < 10 ^ (k + 1) → (numL 10 n).length ≤ k + 1 := by
    intro k
    induction k with
    | zero => intro n h; rw [numL_small 10 n (by omega)]; simp
    | succ k ih =>
      intro n h
      by_cases hs : n < 10
      · rw [numL_small 10 n hs]; simp
      · rw [numL_great 10 n (by omega) (by omega), List.length_append]
        have := ih (n / 10) (by rw [Nat.pow_succ] at h; omega)
        simp; omega
  exact key 19 n (Nat.lt_trans h (by decide))
/-- A number is read as it is written. -/
theorem number_num (n : Nat) (h : n < 2 ^ 64) : numberL (numL 10 n) = some n := by
  unfold numberL
  rw [(valueL_iff 10 20 (by omega) (by omega) (numL 10 n) n).2 ⟨rfl, numL_len20 n h⟩]
  show (if n < 2 ^ 64 then some n else none) = _
  rw [if_pos h]
end Go.Proofs.YtimdhdimhboboaaGreatDoor

/- LAYER 17: predicates, as lists. No Go function is spoken of here. -/
namespace Go.Proofs.YtimdhdimhboboaaGreatDoor
set_option maxRecDepth 100000
open Go Go.RowKit

/-- A predicate. -/
structure Prd where
  kind : Int
  time : Nat
  names : List (List UInt8)
  path : List UInt8
  net : Rng
  cost : Nat
structure Prd.Ok (p : Prd) : Prop where
  net : p.net.Ok
  time : p.time < 2 ^ 64
  cost : p.cost < 2 ^ 64
def zeroP : Prd := ⟨0, 0, [], [], zeroR, 0⟩
/-- What a text may say, kind by kind. -/
def candsP (b : List UInt8) : List Prd :=
  [⟨1, (numberL b).getD 0, [], [], zeroR, 0⟩, ⟨2, (numberL b).getD 0, [], [], zeroR, 0⟩, ⟨3, 0, (namesC b).getD [], [], zeroR, 0⟩, ⟨4, 0, [], b, zeroR, 0⟩, ⟨5, 0, [], [], (parseR b).getD zeroR, 0⟩, ⟨6, 0, [], [], zeroR, (parseC b).getD 0⟩]
theorem zeroP_ok : zeroP.Ok := ⟨zeroR_ok, by decide, by decide⟩
theorem numberL_lt (s : List UInt8) : (numberL s).getD 0 < 2 ^ 64 := by
  unfold numberL
  split
  · decide
  · split
    · assumption
    · decide
theorem cands_ok (b : List UInt8) : ∀ p ∈ candsP b, p.Ok := by
  have hr : ((parseR b).getD zeroR).Ok := by
    cases h : parseR b with
    | none => exact zeroR_ok
    | some r =>
      obtain ⟨h1, h2, -⟩ := (parseR_iff b r).1 h
      have := checkR_lim r h2
      exact ⟨h1, by show _ ≤ r.n; omega, by show r.n ≤ _; omega⟩
  have hc : (parseC b).getD 0 < 2 ^ 64 := by
    cases h : parseC b with
    | none => decide
    | some c => exact ((parseC_iff b c).1 h).1
  have hn := numberL_lt b
  intro p hp
  unfold candsP at hp
  simp only [List.mem_cons, List.not_mem_nil, or_false] at hp
  rcases hp with rfl | rfl | rfl | rfl | rfl | rfl
  · exact ⟨zeroR_ok, hn, by show (0 : Nat) < 2 ^ 64; decide⟩
  · exact ⟨zeroR_ok, hn, by show (0 : Nat) < 2 ^ 64; decide⟩
  · exact ⟨zeroR_ok, by show (0 : Nat) < 2 ^ 64; decide, by show (0 : Nat) < 2 ^ 64; decide⟩
  · exact ⟨zeroR_ok, by show (0 : Nat) < 2 ^ 64; decide, by show (0 : Nat) < 2 ^ 64; decide⟩
  · exact ⟨hr, by show (0 : Nat) < 2 ^ 64; decide, by show (0 : Nat) < 2 ^ 64; decide⟩
  · exact ⟨zeroR_ok, by show (0 : Nat) < 2 ^ 64; decide, hc⟩
end Go.Proofs.YtimdhdimhboboaaGreatDoor

/- LAYER 17: what the package tells and reads, as lists: it is the document's. No Go function is spoken of here. -/
namespace Go.Proofs.YtimdhdimhboboaaGreatDoor
set_option maxRecDepth 100000
open Go Go.RowKit

/-- What two words say. -/
def readP (a b : List UInt8) : Option Prd :=
  if a = [98, 101, 102, 111, 114, 101] then (numberL b).map fun n => ⟨1, n, [], [], zeroR, 0⟩
  else if a = [115, 105, 110, 99, 101] then (numberL b).map fun n => ⟨2, n, [], [], zeroR, 0⟩
  else if a = [111, 112] then (namesC b).map fun l => ⟨3, 0, l, [], zeroR, 0⟩
  else if a = [112, 97, 116, 104] then (if rightL b = true then some ⟨4, 0, [], b, zeroR, 0⟩ else none)
  else if a = [110, 101, 116] then (parseR b).map fun r => ⟨5, 0, [], [], r, 0⟩
  else if a = [99, 111, 115, 116] then (parseC b).map fun c => ⟨6, 0, [], [], zeroR, c⟩
  else none
end Go.Proofs.YtimdhdimhboboaaGreatDoor

/- LAYER 16: the document's Name. -/
namespace Go.Proofs.YtimdhdimhboboaaGreatDoor
set_option maxRecDepth 100000
open Go Go.RowKit

theorem name16_iff (s : List UInt8) : name16 s = (decide (1 ≤ s.length) && decide (s.length ≤ 16) && s.all lowB) := rfl
end Go.Proofs.YtimdhdimhboboaaGreatDoor

/- AN ARGUMENT THAT IS A SLICE OF STRINGS, opened, its strings' sizes out of the row's reach. -/
namespace Go.Proofs.YtimdhdimhboboaaGreatDoor
set_option maxRecDepth 100000
open Go.ChangeShapes Go.WideShapes Go.ChangeAt Go.RowKit

theorem bstr_data (s : ByteArray) : bstr s.data.toList = s := by obtain ⟨⟨l⟩⟩ := s; rfl
theorem cells_str : Tryz.prog.cellsOf 9 = 1 := by kernel_rfl
end Go.Proofs.YtimdhdimhboboaaGreatDoor

/- LAYER 16: the document's Rise. -/
namespace Go.Proofs.YtimdhdimhboboaaGreatDoor
set_option maxRecDepth 100000
open Go Go.RowKit

theorem okAt_zero (l : List (List UInt8)) (i : Nat) (h : i = 0) : okAt l i = name16 (l.getD i []) := by
  subst h
  unfold okAt
  simp
theorem okAt_pos (l : List (List UInt8)) (i : Nat) (h : 0 < i) : okAt l i = (name16 (l.getD i []) && Op.bytesLess (l.getD (i - 1) []) (l.getD i [])) := by
  unfold okAt
  rw [decide_eq_false (by omega : ¬ i = 0), Bool.false_or]
theorem okAt_next (l : List (List UInt8)) (k : Nat) (h : ∀ j < k, okAt l j = true) (hk : okAt l k = true) : ∀ j < k + 1, okAt l j = true := by
  intro j hj
  rcases Nat.lt_succ_iff_lt_or_eq.1 hj with h1 | h1
  · exact h j h1
  · rw [h1]; exact hk
end Go.Proofs.YtimdhdimhboboaaGreatDoor

/- LAYER 16: the document's Names, Join. -/
namespace Go.Proofs.YtimdhdimhboboaaGreatDoor
set_option maxRecDepth 100000
open Go Go.RowKit

/-- What a row of strings that may be none answers: the row and whether. -/
def GaveRow (o : Option (List (List UInt8))) (w : World) (e : Ending) (w' : World) : Prop :=
  ∃ (A : Option Addr) (c : Nat), e = .returned (.tuple #[.slice A (o.getD []).length c, .bool o.isSome]) ∧ Sl w' A c (strsV (o.getD [])) ∧ Below w.heap.size w w'
theorem sl_none16 (w : World) : Sl w none 0 (strsV []) := ⟨.inl (by simp [strsV]), by simp [strsV], fun _ => rfl⟩
end Go.Proofs.YtimdhdimhboboaaGreatDoor

/- LAYER 15: numbers with a point in the model: math.Float64bits, Float64frombits, NaN, Inf, Copysign; the document's Same, rank, AtMost. -/
namespace Go.Proofs.YtimdhdimhboboaaGreatDoor
set_option maxRecDepth 100000
open Go Go.RowKit

@[go_sem] theorem run_f64bits (b : Nat) (w : World) : (callFunc 117 #[.float .f64 b]).run Tryz.prog w = .ok (.value (.int .u64 b)) w := by
  rw [run_callFunc_extern (fn := Tryz.f117) (e := Extern.MathFloatBits.float64bits) Tryz.func117 (by kernel_rfl) (by kernel_rfl) (by kernel_rfl) (by kernel_rfl)]; rfl
@[go_sem] theorem run_f64from (n : Int) (w : World) : (callFunc 116 #[.int .u64 n]).run Tryz.prog w = .ok (.value (.float .f64 n.toNat)) w := by
  rw [run_callFunc_extern (fn := Tryz.f116) (e := Extern.MathFloatBits.float64frombits) Tryz.func116 (by kernel_rfl) (by kernel_rfl) (by kernel_rfl) (by kernel_rfl)]; rfl
end Go.Proofs.YtimdhdimhboboaaGreatDoor

/- LAYER 17: a predicate's cells; the document's words. -/
namespace Go.Proofs.YtimdhdimhboboaaGreatDoor
set_option maxRecDepth 100000
open Go Go.RowKit

/-- A predicate's 23 cells: its names lie elsewhere. -/
def prdV (p : Prd) (A : Option Addr) (c : Nat) : List Value := [.int .i64 p.kind, .int .u64 (p.time : Int), .slice A p.names.length c, .string (bstr p.path)] ++ (rngV p.net ++ [.float .f64 p.cost])
theorem length_prdV (p : Prd) (h : p.net.a.Ok) (A : Option Addr) (c : Nat) : (prdV p A c).length = 23 := by
  unfold prdV
  rw [List.length_append, List.length_append, length_rngV' _ h]; rfl
theorem size_prd : (Tryz.prog.info? 70).map (·.size) = some 23 := by kernel_rfl
/-- What a predicate of the program's is: its parts, and where its names lie. -/
structure PrdAt (w : World) (p : Prd) (A : Option Addr) (c : Nat) : Prop where
  ok : p.Ok
  names : Sl w A c (strsV p.names)
  lo : -9223372036854775808 ≤ p.kind
  hi : p.kind ≤ 9223372036854775807
  path : p.path.length ≤ 4000
  sum : sumS p.names ≤ 4000
end Go.Proofs.YtimdhdimhboboaaGreatDoor

/- LAYER 15: what the document's Parse does, as lists; four numbers in a row. -/
namespace Go.Proofs.YtimdhdimhboboaaGreatDoor
set_option maxRecDepth 100000
open Go Go.RowKit

theorem bstr_is15 (l k : List UInt8) : ((bstr l).toList == k) = decide (l = k) := by
  rw [bstr_toList, Bool.eq_iff_iff, beq_iff_eq, decide_eq_true_iff]
end Go.Proofs.YtimdhdimhboboaaGreatDoor

/- LAYER 17: the document's Text. -/
namespace Go.Proofs.YtimdhdimhboboaaGreatDoor
set_option maxRecDepth 100000
open Go Go.RowKit

theorem PrdAt.later {w w' : World} {p : Prd} {A : Option Addr} {c B : Nat} (h : PrdAt w p A c) (hB : w.heap.size ≤ B) (hb : Below B w w') : PrdAt w' p A c :=
  ⟨h.ok, h.names.later hB hb, h.lo, h.hi, h.path, h.sum⟩
end Go.Proofs.YtimdhdimhboboaaGreatDoor

/- The library's strings.Split at a sign of one byte, as lists (layers 12, 14, 16). No Go function is spoken of here. -/
namespace Go.Proofs.YtimdhdimhboboaaGreatDoor
set_option maxRecDepth 100000
open Go Go.RowKit

theorem index_cases (r : List UInt8) (c : UInt8) : (Lib.indexByte r c = -1 ∧ splitL c r = [r]) ∨ ∃ i : Nat, i < r.length ∧ Lib.indexByte r c = (i : Int) ∧ splitL c r = r.take i :: splitL c (r.drop (i + 1)) := by
  by_cases h : Lib.indexByte r c = -1
  · refine .inl ⟨h, splitL_end c r fun d hd => ?_⟩
    obtain ⟨k, hk⟩ := List.getElem?_of_mem hd
    intro e
    exact Lib.indexByte_none h k (by rw [hk, e])
  · have hge := Lib.indexByte_ge r c
    obtain ⟨i, hi⟩ : ∃ i : Nat, Lib.indexByte r c = (i : Int) := ⟨(Lib.indexByte r c).toNat, by omega⟩
    obtain ⟨h1, h2⟩ := Lib.indexByte_some hi
    have hlt := (List.getElem?_eq_some_iff.1 h1).1
    refine .inr ⟨i, hlt, hi, ?_⟩
    have e : r = r.take i ++ c :: r.drop (i + 1) := by
      have hc : r[i] = c := (List.getElem?_eq_some_iff.1 h1).2
      conv => lhs; rw [← List.take_append_drop i r, List.drop_eq_getElem_cons hlt, hc]
    conv => lhs; rw [e]
    refine splitL_hit c _ _ fun d hd => ?_
    obtain ⟨k, hk⟩ := List.getElem?_of_mem hd
    have hki : k < i := by have := (List.getElem?_eq_some_iff.1 hk).1; rw [List.length_take] at this; omega
    intro e
    refine h2 k hki ?_
    rw [List.getElem?_take, if_pos hki] at hk
    rw [hk, e]
theorem splitB_sign (c : UInt8) : ∀ (k : Nat) (s : List UInt8), s.count c ≤ k → Lib.splitB (bstr [c]) 0 k (bstr s) = (splitL c s).map bstr := by
  intro k
  induction k with
  | zero =>
    intro s h
    rw [Lib.splitB_zero, splitL_end c s fun d hd e => by
      have := List.count_pos_iff.2 (e ▸ hd)
      omega]
    rfl
  | succ k ih =>
    intro s h
    have e1 : Lib.indexB (bstr s) (bstr [c]) = Lib.indexByte s c := Lib.index_one s c
    rcases index_cases s c with ⟨hi, hsp⟩ | ⟨i, hir, hi, hsp⟩
    · rw [Lib.splitB_miss _ _ _ _ (by rw [e1, hi]), hsp]; rfl
    · rw [Lib.splitB_hit _ _ _ _ i (by rw [e1, hi]), hsp, List.map_cons]
      have h1 : (bstr [c]).size = 1 := rfl
      have h2 := (Lib.indexByte_some hi).1
      have hc : s.count c = (s.take i).count c + (1 + (s.drop (i + 1)).count c) := by
        have e : s = s.take i ++ c :: s.drop (i + 1) := by
          have hg : s[i] = c := (List.getElem?_eq_some_iff.1 h2).2
          conv => lhs; rw [← List.take_append_drop i s, List.drop_eq_getElem_cons hir, hg]
        conv => lhs; rw [e]
        rw [List.count_append, List.count_cons_self]; omega
      have e2 : (bstr s).extract (i + (bstr [c]).size) (bstr s).size = bstr (s.drop (i + 1)) := by
        rw [h1, size_bstr, extract_bstr12, List.take_of_length_le (by rw [List.length_drop]; omega)]
      have e3 : (bstr s).extract 0 (i + 0) = bstr (s.take i) := by
        rw [extract_bstr12, List.drop_zero]; rfl
      rw [e2, e3, ih _ (by omega)]
theorem split_sign (c : UInt8) (s : List UInt8) : Lib.splitB (bstr [c]) 0 (Lib.countB (bstr s) (bstr [c])) (bstr s) = (splitL c s).map bstr := by
  refine splitB_sign c _ s ?_
  have : Lib.countB (bstr s) (bstr [c]) = s.count c := Lib.count_one c s
  omega
theorem split_count (c : UInt8) (s : List UInt8) : Lib.countB (bstr s) (bstr [c]) + 1 = (splitL c s).length := by
  have h := Lib.splitB_all (bstr [c]) (Nat.le_refl 1) 0 _ (bstr s) rfl
  rw [split_sign, List.length_map] at h
  exact h.symm
end Go.Proofs.YtimdhdimhboboaaGreatDoor
