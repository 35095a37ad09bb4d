/- Texts of this claim, one behind the other. -/
import Derived.Test.YtcbilopdeiapjaaDoorRaak
import Derived.Great.BuildSlice
import Derived.Test.YtcbilopdeiapjaaDoorRaac
import Derived.Test.YtcbilopdeiapjaaDoorRaad
import Derived.Test.YtcbilopdeiapjaaDoorRaai
import Derived.Test.YtcbilopdeiapjaaDoorRaab
import Derived.Test.YtcbilopdeiapjaaDoorRaaa
import Derived.ChangeKeysEq
import Derived.Laws.StructEq
/- LAYER 20: the document's Caveat, Add. -/
namespace Go.Proofs.YtcbilopdeiapjaaDoor
set_option maxRecDepth 100000
open Go Go.RowKit

section
variable {w : World} {g u : Nat} {d : Deal}
theorem deal_party (h : Row w g u (dealV d)) : w.cell? ⟨g, 0, none⟩ = some (.int .u64 d.party) := by rw [h.cell]; rfl
theorem deal_key (h : Row w g u (dealV d)) : w.rangeAt g 1 (byts d.key) :=
  range_of_row (A := [Value.int .u64 (d.party : Int)]) (B := byts d.key) (C := byts d.root ++ ([Value.string (bstr d.cond)] ++ (byts d.ask ++ byts d.vault))) h
theorem deal_root (h : Row w g u (dealV d)) (hd : d.Ok) : w.rangeAt g 33 (byts d.root) := by
  have := range_of_row (w := w) (g := g) (A := [Value.int .u64 (d.party : Int)] ++ byts d.key) (B := byts d.root) (C := [Value.string (bstr d.cond)] ++ (byts d.ask ++ byts d.vault)) (by rw [List.append_assoc]; exact h)
  rwa [show ([Value.int .u64 (d.party : Int)] ++ byts d.key).length = 33 by rw [List.length_append, length_byts, hd.key]; rfl] at this
theorem deal_cond (h : Row w g u (dealV d)) (hd : d.Ok) : w.cell? ⟨g, 65, none⟩ = some (.string (bstr d.cond)) := by
  rw [h.cell]
  unfold dealV
  rw [List.getElem?_append_right (by show 1 ≤ 65; decide), List.getElem?_append_right (by rw [length_byts, hd.key]; show (32 : Nat) ≤ 64; decide), List.getElem?_append_right (by rw [length_byts, length_byts, hd.key, hd.root]; show (32 : Nat) ≤ 32; decide), length_byts, length_byts, hd.key, hd.root]
  rfl
theorem deal_ask (h : Row w g u (dealV d)) (hd : d.Ok) : w.rangeAt g 66 (byts d.ask) := by
  have := range_of_row (w := w) (g := g) (A := [Value.int .u64 (d.party : Int)] ++ (byts d.key ++ (byts d.root ++ [Value.string (bstr d.cond)]))) (B := byts d.ask) (C := byts d.vault) (by rw [List.append_assoc, List.append_assoc, List.append_assoc]; exact h)
  rwa [show ([Value.int .u64 (d.party : Int)] ++ (byts d.key ++ (byts d.root ++ [Value.string (bstr d.cond)]))).length = 66 by simp only [List.length_append, List.length_cons, List.length_nil, length_byts, hd.key, hd.root]] at this
theorem deal_vault (h : Row w g u (dealV d)) (hd : d.Ok) : w.rangeAt g 98 (byts d.vault) := by
  have := range_of_row (w := w) (g := g) (A := [Value.int .u64 (d.party : Int)] ++ (byts d.key ++ (byts d.root ++ ([Value.string (bstr d.cond)] ++ byts d.ask)))) (B := byts d.vault) (C := []) (by rw [List.append_nil, List.append_assoc, List.append_assoc, List.append_assoc, List.append_assoc]; exact h)
  rwa [show ([Value.int .u64 (d.party : Int)] ++ (byts d.key ++ (byts d.root ++ ([Value.string (bstr d.cond)] ++ byts d.ask)))).length = 98 by simp only [List.length_append, List.length_cons, List.length_nil, length_byts, hd.key, hd.root, hd.ask]] at this
end
theorem size_deal : (Tryd.prog.info? 29).map (·.size) = some 130 := by kernel_rfl
theorem tagz {l : List UInt8} (h : l.length = 32) : (Tryd.prog.info? 25).map (·.size) = some (byts l).length := by rw [tag_fit l h]; exact size_tag
set_option maxHeartbeats 4000000 in
theorem rcaveat20_any (t : List UInt8) (d : Deal) (ht : t.length = 32) (hd : d.Ok) (hc : d.cond.length ≤ 10000) (w : World) :
    Calls Tryd.prog 22 #[.agg (byts t).toArray, .agg (dealV d).toArray] w fun e w' => e = .returned (.agg (cavV (cavD t d)).toArray) ∧ Below w.heap.size w w' := by
  have htz := Lib.hid (tagz ht)
  have hkz := Lib.hid (tagz hd.key)
  have hrz := Lib.hid (tagz hd.root)
  have haz := Lib.hid (tagz hd.ask)
  have hvz := Lib.hid (tagz hd.vault)
  have hlo := Lib.hid (fun w' => rlock_any d.key d.ask d.root d.cond hd.key hd.ask hd.root hc w')
  have hhi := Lib.hid (fun w' => rhide_any t d.vault d.root ht hd.vault hd.root w')
  have HC : cavD t d = ⟨true, [], d.party, lockL d.key d.ask d.root d.cond, hideL t d.vault d.root⟩ := rfl
  generalize lockL d.key d.ask d.root d.cond = L at *
  generalize hideL t d.vault d.root = HI at *
  have HC := Lib.hid HC
  generalize cavD t d = CC at *
  have HD := Lib.hid hd
  clear ht hd hc
  go_enter Tryd.func22, Tryd.ntmps22
  go_upto_region 1 with fail
  generalize hw1 : World.alloc (World.alloc (World.alloc _ _) _) _ = w1
  obtain ⟨r1, r2, r3, hb1, -⟩ := rows3 (C := [Value.bool false, .string { data := #[] }, .int .u64 0, .string { data := #[] }, .string { data := #[] }]) hw1
  clear hw1
  have hlt3 := Lib.hid r3.lt
  refine wp_region_noPanic ?_
  refine wp_region_held_drew (S := fun w' => Row w' w.heap.size 25 (byts t) ∧ Row w' (w.heap.size + 1) 29 (dealV d)) (by kernel_rfl) (⟨r1.later ((Below.refl _ _).drew) r1.lt, r2.later ((Below.refl _ _).drew) r2.lt⟩) (fun hHeld => ?_)
  have hB : Below w1.heap.size w1 w1.drew := (Below.refl _ _).drew
  refine rt 0 5 hHeld ?_
  refine rt 1 6 hHeld ?_ (hy := by intro w hS; have h1 := deal_party hS.2; go_simp; try with_reducible rfl)
  refine rt 2 7 hHeld ?_
  refine rt 3 8 hHeld ?_ (hy := by intro w hS; exact run_load_op 25 (.tmp 7) rfl _ 1 rfl (byts d.key) _ (deal_key hS.2) Tryd.underlying25 rfl hkz.out)
  refine rt 4 9 hHeld ?_
  refine rt 5 10 hHeld ?_ (hy := by intro w hS; exact run_load_op 25 (.tmp 9) rfl _ 66 rfl (byts d.ask) _ (deal_ask hS.2 HD.out) Tryd.underlying25 rfl haz.out)
  refine rt 6 11 hHeld ?_
  refine rt 7 12 hHeld ?_ (hy := by intro w hS; exact run_load_op 25 (.tmp 11) rfl _ 33 rfl (byts d.root) _ (deal_root hS.2 HD.out) Tryd.underlying25 rfl hrz.out)
  refine rt 8 13 hHeld ?_
  refine rt 9 14 hHeld ?_ (hy := by intro w hS; have h1 := deal_cond hS.2 HD.out; go_simp; try with_reducible rfl)
  refine rt 11 16 hHeld ?_ (hy := by intro w hS; exact run_load_op 25 (.tmp 2) rfl _ 0 rfl (byts t) _ (row_range hS.1) Tryd.underlying25 rfl htz.out)
  refine rt 12 17 hHeld ?_
  refine rt 13 18 hHeld ?_ (hy := by intro w hS; exact run_load_op 25 (.tmp 17) rfl _ 98 rfl (byts d.vault) _ (deal_vault hS.2 HD.out) Tryd.underlying25 rfl hvz.out)
  refine rt 14 19 hHeld ?_
  refine rt 15 20 hHeld ?_ (hy := by intro w hS; exact run_load_op 25 (.tmp 19) rfl _ 33 rfl (byts d.root) _ (deal_root hS.2 HD.out) Tryd.underlying25 rfl hrz.out)
  refine rc1 10 fun K hK => ?_
  go_simp
  refine (hlo.out _).mono ?_; rintro e ww110 ⟨rfl, hqw110⟩
  try go_wp2_with fail
  refine hK.out _ _ ⟨hHeld.1.later hqw110 hHeld.1.lt, hHeld.2.later hqw110 hHeld.2.lt⟩ (fun hHeld => ?_)
  clear hK K
  have hB := below_step hB hqw110
  have hB10 : Below ww110.heap.size ww110 ww110 := Below.refl _ _
  refine rc1 16 fun K hK => ?_
  go_simp
  refine (hhi.out _).mono ?_; rintro e ww116 ⟨rfl, hqw116⟩
  try go_wp2_with fail
  refine hK.out _ _ ⟨hHeld.1.later hqw116 hHeld.1.lt, hHeld.2.later hqw116 hHeld.2.lt⟩ (fun hHeld => ?_)
  clear hK K
  have hB := below_step hB hqw116
  have hB10 := below_step hB10 hqw116
  have hB16 : Below ww116.heap.size ww116 ww116 := Below.refl _ _
  refine rt 17 22 hHeld ?_
  refine rc1 18 fun K hK => ?_
  refine step_store_row none rfl (by rfl) 48 (.tmp 4) (.tmp 22) rfl _ 0 48 _ (cavV ⟨true, [], d.party, L, HI⟩) rfl rfl (r3.later hB r3.lt) (by show 0 + 5 ≤ 5; decide) size_cav (cavV_one1 _) ?_; intro wf rf hgf; have hBz := hB
  refine hK.out _ _ ⟨hHeld.1.grown hgf (by omega), hHeld.2.grown hgf (by omega)⟩ (fun hHeld => ?_)
  clear hK K
  rw [put_none]
  refine wpAnyH_done (by kernel_rfl) ?_ _
  refine NoPanic.normal ?_
  have r9 : Row wf (w.heap.size + 1 + 1) 48 (cavV CC) := by rw [HC.out]; exact rf
  have hb9 := (hb1.trans (hBz.mono hb1.size)).grown hgf (Nat.le_trans hb1.size hBz.size) (fun k h => by cases h; omega)
  have R9 := Lib.hid (show wf.heap[w.heap.size + 1 + 1]? = some (.cells (cavV CC).toArray 48 (0, 0)) from r9)
  have hzC := Lib.hid (show (Tryd.prog.info? 48).map (·.size) = some (cavV CC).toArray.size from size_cav)
  clear r9 hgf rf hBz hHeld hb1
  go_wp2_with (with_reducible refine bodyPost_ret (results_cell_row rfl _ _ (w.heap.size + 1 + 1) 48 (cavV CC).toArray (0, 0) _ rfl R9.out Tryd.underlying48 rfl hzC.out) rfl ?_)
  try exact ⟨rfl, hb9⟩
set_option maxHeartbeats 8000000 in
theorem radd20_any (t : Tok) (ht : t.Ok) (d : Deal) (hd : d.Ok) (hc : d.cond.length ≤ 10000) (hm : t.cavs.length ≤ 1000000) (A : Option Addr) (c : Nat) (w : World) (hs : Sl w A (c * 5) (t.cavs.flatMap cavV)) :
    Calls Tryd.prog 8 #[.agg (tokV t A c).toArray, .agg (dealV d).toArray] w (GaveTok (thirdT t d) (errThird t d) w) := by
  obtain ⟨Z, hZ⟩ : ∃ Z, Z = tokV zeroK none 0 := ⟨_, rfl⟩
  have hZl : Z.length = 36 := by rw [hZ]; exact length_tokV zeroK_ok none 0
  have hZe := Lib.hid (hZ.trans ztok)
  have hzZ := Lib.hid (show (Tryd.prog.info? 27).map (·.size) = some Z.toArray.size by rw [List.size_toArray, hZl]; exact size_tok)
  have hZ1 := Lib.hid (show Z.toArray.all (·.oneCell') = true by rw [hZ, List.all_toArray, List.all_eq_true]; exact tokV_one _ _ _)
  obtain ⟨X, hX⟩ : ∃ X, X = tokV t A c := ⟨_, rfl⟩
  have hXl : X.length = 36 := by rw [hX]; exact length_tokV ht A c
  have hzX := Lib.hid (show (Tryd.prog.info? 27).map (·.size) = some X.length by rw [hXl]; exact size_tok)
  have hzX2 := Lib.hid (show (Tryd.prog.info? 27).map (·.size) = some X.toArray.size by rw [List.size_toArray, hXl]; exact size_tok)
  obtain ⟨D, hD⟩ : ∃ D, D = dealV d := ⟨_, rfl⟩
  have hDl : D.length = 130 := by rw [hD]; exact length_dealV hd
  have hzD := Lib.hid (show (Tryd.prog.info? 29).map (·.size) = some D.length by rw [hDl]; exact size_deal)
  obtain ⟨w1, hw1⟩ : ∃ w1, w1 = ((w.alloc (.cells X.toArray 27)).alloc (.cells D.toArray 29)).alloc (.cells Z.toArray 27) := ⟨_, rfl⟩
  obtain ⟨r1, r2, r3, hb1, -⟩ := rows3 hw1.symm
  have HW := Lib.hid (hw1.trans (by rw [hZe.out]))
  have ts := hs.later (Nat.le_refl _) hb1
  have hc3 : w1.cell? ⟨w.heap.size, 3, none⟩ = some (.bool t.bound) := by rw [r1.cell, hX]; rfl
  have hck := Lib.hid (show ∀ w', Sl w' A (c * 5) (t.cavs.flatMap cavV) → Calls Tryd.prog 20 #[.agg X.toArray] w' fun e w'' => e = .returned (.bool (checkT t)) ∧ Below w'.heap.size w' w'' by rw [hX]; exact fun w' h => rcheck_any t A c w' h)
  have hcd := Lib.hid (show ∀ w', Calls Tryd.prog 22 #[.agg (byts t.tag).toArray, .agg D.toArray] w' fun e w'' => e = .returned (.agg (cavV (cavD t.tag d)).toArray) ∧ Below w'.heap.size w' w'' by rw [hD]; exact fun w' => rcaveat20_any t.tag d ht.tag hd hc w')
  have had := Lib.hid (show ∀ w', Sl w' A (c * 5) (t.cavs.flatMap cavV) → Calls Tryd.prog 21 #[.agg X.toArray, .agg (cavV (cavD t.tag d)).toArray] w' (GaveTok (addT t (cavD t.tag d)) (errAdd t (cavD t.tag d)) w') by
    rw [hX]; exact fun w' h => radd_any t ht (cavD t.tag d) hd.party (capB_cavD t.tag d hd (by omega)) hm A c w' h)
  have hUo : (addT t (cavD t.tag d)).Ok := by
    unfold addT; split
    · exact moreT_ok ht hd.party
    · exact zeroK_ok
  have HZ := Lib.hid hZ
  have HX := Lib.hid hX
  have HD := Lib.hid hD
  have HOk := Lib.hid hd
  have HTg := Lib.hid ht.tag
  have HT : errThird t d = if t.bound = true then 6 else if 512 < d.cond.length then 1 else errAdd t (cavD t.tag d) := rfl
  have HG := Lib.hid (show thirdT t d = if errThird t d = 0 then moreT t (cavD t.tag d) else zeroK from rfl)
  have HA := Lib.hid (show addT t (cavD t.tag d) = if errAdd t (cavD t.tag d) = 0 then moreT t (cavD t.tag d) else zeroK from rfl)
  have hbad := Lib.hid (errAdd_bad t (cavD t.tag d))
  have hzc := size_bstr d.cond
  have HCO := Lib.hid (fun w' (h : Row w' (w.heap.size + 1) 29 D) => deal_cond (w := w') (g := w.heap.size + 1) (u := 29) (hD ▸ h) hd)
  rw [← hX, ← hD]
  clear hw1 hZ hX hD hs hd ht hc hm
  have Q3 := Lib.hid (show w1.heap[w.heap.size + 1 + 1]? = some (.cells Z.toArray 27 (0, 0)) from r3)
  have tok1 : True := trivial
  generalize addT t (cavD t.tag d) = UU at *
  generalize errAdd t (cavD t.tag d) = ee at *
  generalize moreT t (cavD t.tag d) = MM at *
  generalize thirdT t d = U at *
  generalize errThird t d = er at *
  cases hbd : t.bound with
  | true =>
    rw [hbd] at hc3 HT
    have e1 : er = 6 := HT.trans (if_pos rfl)
    have e2 : U = zeroK := by rw [HG.out, e1]; rfl
    have E1 := Lib.hid e1
    have E2 := Lib.hid e2
    clear r1 r2 r3 ts hXl hZl hDl HT HG HA e1 e2 hbad hck hcd had hzc HCO
    go_enter Tryd.func8, Tryd.ntmps8
    go_wp2_with (first
      | (have _t := tok1; rw [← HW.out]; clear tok1)
      | (have _t := Q3; refine wpList_store_row rfl 27 (.tmp 4) (.tmp 8) rfl (w.heap.size + 1 + 1) Z.toArray rfl (by rw [hZe.out]; rfl) 27 Z.toArray Q3.out hzZ.out rfl hZ1.out ?_; refine Hid.out ?_))
    refine Lib.hid ?_
    generalize hw8 : World.setRow _ _ _ = w8
    obtain ⟨r8, hg8⟩ := row_set (show Row w1 (w.heap.size + 1 + 1) 27 Z from Q3.out) hw8
    have hb8 := hb1.grown hg8 hb1.size (fun k h => by cases h; omega)
    have R8 := Lib.hid (show w8.heap[w.heap.size + 1 + 1]? = some (.cells Z.toArray 27 (0, 0)) from r8)
    clear hw8 r8 Q3
    go_wp2_with fail
    exact ⟨rfl, _, results_row_tmp rfl _ _ (w.heap.size + 1 + 1) 27 Z.toArray (0, 0) _ rfl R8.out Tryd.underlying27 rfl hzZ.out _ rfl, none, 0, by rw [E2.out, E1.out, HZ.out]; rfl, by rw [E2.out]; exact sl_zeroK _, (fun a h => by cases h), hb8⟩
  | false =>
    rw [hbd] at hc3 HT
    replace HT := HT.trans (if_neg (by decide))
    have hbad := Lib.hid (hbad.out hbd)
    have k65 := HCO.out w1 r2
    have hn2 : w1.cell? ⟨w.heap.size, 2, none⟩ = some (.slice A t.cavs.length c) := by rw [r1.cell, HX.out]; rfl
    have K1 := Lib.hid (row_range r1)
    have K2 := Lib.hid (row_range r2)
    clear HCO hbd
    by_cases h512 : 512 < d.cond.length
    · have h5 : (512 : Int) < ((bstr d.cond).size : Int) := by rw [hzc]; omega
      have e1 : er = 1 := HT.trans (if_pos h512)
      have e2 : U = zeroK := by rw [HG.out, e1]; rfl
      have E1 := Lib.hid e1
      have E2 := Lib.hid e2
      clear r1 r2 r3 ts hXl hZl hDl HT HG HA e1 e2 hbad hck hcd had hzc
      go_enter Tryd.func8, Tryd.ntmps8
      go_wp2_with (first
        | (have _t := tok1; rw [← HW.out]; clear tok1)
        | (have _t := Q3; refine wpList_store_row rfl 27 (.tmp 4) (.tmp 24) rfl (w.heap.size + 1 + 1) Z.toArray rfl (by rw [hZe.out]; rfl) 27 Z.toArray Q3.out hzZ.out rfl hZ1.out ?_; refine Hid.out ?_))
      refine Lib.hid ?_
      generalize hw8 : World.setRow _ _ _ = w8
      obtain ⟨r8, hg8⟩ := row_set (show Row w1 (w.heap.size + 1 + 1) 27 Z from Q3.out) hw8
      have hb8 := hb1.grown hg8 hb1.size (fun k h => by cases h; omega)
      have R8 := Lib.hid (show w8.heap[w.heap.size + 1 + 1]? = some (.cells Z.toArray 27 (0, 0)) from r8)
      clear hw8 r8 Q3
      go_wp2_with fail
      exact ⟨rfl, _, results_row_tmp rfl _ _ (w.heap.size + 1 + 1) 27 Z.toArray (0, 0) _ rfl R8.out Tryd.underlying27 rfl hzZ.out _ rfl, none, 0, by rw [E2.out, E1.out, HZ.out]; rfl, by rw [E2.out]; exact sl_zeroK _, (fun a h => by cases h), hb8⟩
    replace HT := HT.trans (if_neg h512)
    have h5 : ¬ (512 : Int) < ((bstr d.cond).size : Int) := by rw [hzc]; omega
    have d5 := decide_eq_false h5
    cases hok : checkT t with
    | false =>
      have e1 : er = 1 := HT.trans (hbad.out (.inl hok))
      have e2 : U = zeroK := by rw [HG.out, e1]; rfl
      have E1 := Lib.hid e1
      have E2 := Lib.hid e2
      rw [hok] at hck
      clear hXl hZl hDl HT HG HA e1 e2 hbad hcd had hzc hok
      go_enter Tryd.func8, Tryd.ntmps8
      go_wp2_with (first
        | (have _t := tok1; rw [← HW.out]; clear tok1)
        | ((with_reducible refine wpList_step fun K hK => ?_); refine step_load_mid (some 14) rfl (by rfl) 27 (.tmp 2) rfl w.heap.size 0 rfl X _ K1.out Tryd.underlying27 rfl hzX.out ?_; refine hK _ _ ?_; clear hK)
        | (go_at_call 20; refine (hck.out _ ts).mono ?_; rintro e w2 ⟨rfl, hq⟩; have r3 := r3.later hq r3.lt; have hb2 := hb1.trans (hq.mono hb1.size); have Q3 := Lib.hid (show w2.heap[w.heap.size + 1 + 1]? = some (.cells Z.toArray 27 (0, 0)) from r3); clear hq; refine Hid.out ?_))
      refine Lib.hid ?_
      go_wp2_with (first
        | (have _t := Q3; refine wpList_store_row rfl 27 (.tmp 4) (.tmp 24) rfl (w.heap.size + 1 + 1) Z.toArray rfl (by rw [hZe.out]; rfl) 27 Z.toArray Q3.out hzZ.out rfl hZ1.out ?_; refine Hid.out ?_))
      refine Lib.hid ?_
      generalize hw8 : World.setRow _ _ _ = w8
      obtain ⟨r8, hg8⟩ := row_set (show Row w2 (w.heap.size + 1 + 1) 27 Z from Q3.out) hw8
      have hb8 := hb2.grown hg8 hb2.size (fun k h => by cases h; omega)
      have R8 := Lib.hid (show w8.heap[w.heap.size + 1 + 1]? = some (.cells Z.toArray 27 (0, 0)) from r8)
      clear hw8 r8 Q3
      go_wp2_with fail
      exact ⟨rfl, _, results_row_tmp rfl _ _ (w.heap.size + 1 + 1) 27 Z.toArray (0, 0) _ rfl R8.out Tryd.underlying27 rfl hzZ.out _ rfl, none, 0, by rw [E2.out, E1.out, HZ.out]; rfl, by rw [E2.out]; exact sl_zeroK _, (fun a h => by cases h), hb8⟩
    | true =>
      rw [hok] at hck
      by_cases h63 : 63 < t.cavs.length
      · have h6 : (63 : Int) < (t.cavs.length : Int) := by omega
        have e1 : er = 1 := HT.trans (hbad.out (.inr h63))
        have e2 : U = zeroK := by rw [HG.out, e1]; rfl
        have E1 := Lib.hid e1
        have E2 := Lib.hid e2
        clear hXl hZl hDl HT HG HA e1 e2 hbad hcd had hzc hok h63
        obtain ⟨n, hnn⟩ : ∃ n, t.cavs.length = n := ⟨_, rfl⟩
        rw [hnn] at h6 hn2
        go_enter Tryd.func8, Tryd.ntmps8
        go_wp2_with (first
          | (have _t := tok1; rw [← HW.out]; clear tok1)
          | ((with_reducible refine wpList_step fun K hK => ?_); refine step_load_mid (some 14) rfl (by rfl) 27 (.tmp 2) rfl w.heap.size 0 rfl X _ K1.out Tryd.underlying27 rfl hzX.out ?_; refine hK _ _ ?_; clear hK)
          | (go_at_call 20; refine (hck.out _ ts).mono ?_; rintro e w2 ⟨rfl, hq⟩; have hn2 : w2.cell? ⟨w.heap.size, 2, none⟩ = some (.slice A n c) := (by rw [(r1.later hq r1.lt).cell, HX.out]; rw [show (tokV t A c)[2]? = some (.slice A t.cavs.length c) from rfl, hnn]); have r1 := r1.later hq r1.lt; have r2 := r2.later hq r2.lt; have r3 := r3.later hq r3.lt; have ts := ts.later (Nat.le_refl _) hq; have hb2 := hb1.trans (hq.mono hb1.size); have Q3 := Lib.hid (show w2.heap[w.heap.size + 1 + 1]? = some (.cells Z.toArray 27 (0, 0)) from r3); clear hq; refine Hid.out ?_))
        refine Lib.hid ?_
        go_wp2_with (first
          | (have _t := Q3; refine wpList_store_row rfl 27 (.tmp 4) (.tmp 24) rfl (w.heap.size + 1 + 1) Z.toArray rfl (by rw [hZe.out]; rfl) 27 Z.toArray Q3.out hzZ.out rfl hZ1.out ?_; refine Hid.out ?_))
        refine Lib.hid ?_
        generalize hw8 : World.setRow _ _ _ = w8
        obtain ⟨r8, hg8⟩ := row_set (show Row w2 (w.heap.size + 1 + 1) 27 Z from Q3.out) hw8
        have hb8 := hb2.grown hg8 hb2.size (fun k h => by cases h; omega)
        have R8 := Lib.hid (show w8.heap[w.heap.size + 1 + 1]? = some (.cells Z.toArray 27 (0, 0)) from r8)
        clear hw8 r8 Q3
        go_wp2_with fail
        exact ⟨rfl, _, results_row_tmp rfl _ _ (w.heap.size + 1 + 1) 27 Z.toArray (0, 0) _ rfl R8.out Tryd.underlying27 rfl hzZ.out _ rfl, none, 0, by rw [E2.out, E1.out, HZ.out]; rfl, by rw [E2.out]; exact sl_zeroK _, (fun a h => by cases h), hb8⟩
      have h6 : ¬ (63 : Int) < (t.cavs.length : Int) := by omega
      have e2 : U = UU := by rw [HG.out, HA.out, HT]
      rw [← HT, ← e2] at had
      rw [← e2] at hUo
      unfold GaveTok at had
      clear hXl hDl HT HG HA e2 hbad hzc hok h63
      go_enter Tryd.func8, Tryd.ntmps8
      go_wp2_with (first
        | (have _t := tok1; rw [← HW.out]; clear tok1)
        | ((with_reducible refine wpList_step fun K hK => ?_); refine step_load_mid (some 14) rfl (by rfl) 27 (.tmp 2) rfl w.heap.size 0 rfl X _ K1.out Tryd.underlying27 rfl hzX.out ?_; refine hK _ _ ?_; clear hK)
        | (go_at_call 20; refine (hck.out _ ts).mono ?_; rintro e w2 ⟨rfl, hq⟩; have hn2 : w2.cell? ⟨w.heap.size, 2, none⟩ = some (.slice A t.cavs.length c) := (by rw [(r1.later hq r1.lt).cell, HX.out]; rfl); have r1 := r1.later hq r1.lt; have r2 := r2.later hq r2.lt; have r3 := r3.later hq r3.lt; have ts := ts.later (Nat.le_refl _) hq; have hb2 := hb1.trans (hq.mono hb1.size); have Q3 := Lib.hid (show w2.heap[w.heap.size + 1 + 1]? = some (.cells Z.toArray 27 (0, 0)) from r3); clear hq; refine Hid.out ?_))
      refine Lib.hid ?_
      go_upto_region 5 with fail
      have hlt3 := Lib.hid r3.lt
      have htz := Lib.hid (tagz HTg.out)
      have HZl := Lib.hid hZl
      clear hZl Q3 hn2 K1 K2 k65
      refine wp_region_noPanic ?_
      refine wp_region_held_drew (S := fun w' => Row w' w.heap.size 27 X ∧ Row w' (w.heap.size + 1) 29 D) (by kernel_rfl) (⟨r1.later ((Below.refl _ _).drew) r1.lt, r2.later ((Below.refl _ _).drew) r2.lt⟩) (fun hHeld => ?_)
      have hB : Below w2.heap.size w2 w2.drew := (Below.refl _ _).drew
      refine rt 0 25 hHeld ?_ (hy := by intro w hS; exact run_load_op 27 (.tmp 2) rfl _ 0 rfl X _ (row_range hS.1) Tryd.underlying27 rfl hzX.out)
      refine rt 1 26 hHeld ?_
      refine rt 2 27 hHeld ?_ (hy := by intro w hS; exact run_load_op 25 (.tmp 26) rfl _ 4 rfl (byts t.tag) _ (tok_tag_range (A := A) (c := c) (HX.out ▸ hS.1)) Tryd.underlying25 rfl htz.out)
      refine rt 3 28 hHeld ?_ (hy := by intro w hS; exact run_load_op 29 (.tmp 3) rfl _ 0 rfl D _ (row_range hS.2) Tryd.underlying29 rfl hzD.out)
      refine rc1 4 fun K hK => ?_
      go_simp
      refine (hcd.out _).mono ?_; rintro e ww24 ⟨rfl, hqw24⟩
      try go_wp2_with fail
      refine hK.out _ _ ⟨hHeld.1.later hqw24 hHeld.1.lt, hHeld.2.later hqw24 hHeld.2.lt⟩ (fun hHeld => ?_)
      clear hK K
      have hB := below_step hB hqw24
      have hB4 : Below ww24.heap.size ww24 ww24 := Below.refl _ _
      refine rc1 5 fun K hK => ?_
      go_simp
      refine (had.out _ (ts.later (Nat.le_refl _) hB)).mono ?_; rintro e ww25 ⟨B, dd, rfl, s4, hap, hqw25⟩; have hap := Lib.hid hap; have hgt := Lib.hid hB.size
      try go_wp2_with fail
      refine hK.out _ _ ⟨hHeld.1.later hqw25 hHeld.1.lt, hHeld.2.later hqw25 hHeld.2.lt⟩ (fun hHeld => ?_)
      clear hK K
      have hB := below_step hB hqw25
      have hB4 := below_step hB4 hqw25
      have hB5 : Below ww25.heap.size ww25 ww25 := Below.refl _ _
      refine rt 6 31 hHeld ?_
      refine rt 7 32 hHeld ?_
      refine rc1 8 fun K hK => ?_
      have hVl := length_tokV hUo B dd; refine step_store_row none rfl (by rfl) 27 (.tmp 4) (.tmp 31) rfl _ 0 27 _ (tokV U B dd) rfl rfl (r3.later hB r3.lt) (by rw [hVl, HZl.out]; exact Nat.le_refl _) (by rw [hVl]; exact size_tok) (tokV_one _ _ _) ?_; intro wf rf hgf; have hBz := hB
      refine hK.out _ _ ⟨hHeld.1.grown hgf (by omega), hHeld.2.grown hgf (by omega)⟩ (fun hHeld => ?_)
      clear hK K
      rw [put_none]
      refine rt 9 5 hHeld ?_
      refine wpAnyH_done (by kernel_rfl) ?_ _
      refine NoPanic.normal ?_
      have hspl : splice Z 0 (tokV U B dd) = tokV U B dd := by
        unfold splice
        rw [List.take_zero, List.nil_append, Nat.zero_add, List.drop_eq_nil_of_le (by rw [hVl, HZl.out]; exact Nat.le_refl _), List.append_nil]
      rw [hspl] at rf
      have hb9 := (hb2.trans (hBz.mono hb2.size)).grown hgf (Nat.le_trans hb2.size hBz.size) (fun k h => by cases h; omega)
      have hl3 := hlt3.out
      have hl2 := hb2.size
      have s9 := s4.apart hgf (fun _ a ha => by have := hap.out a ha; have := hgt.out; omega)
      have R9 := Lib.hid (show wf.heap[w.heap.size + 1 + 1]? = some (.cells (tokV U B dd).toArray 27 (0, 0)) from rf)
      have hzV := Lib.hid (show (Tryd.prog.info? 27).map (·.size) = some (tokV U B dd).toArray.size by rw [List.size_toArray, hVl]; exact size_tok)
      clear rf hgf hBz hHeld hb1 hspl hVl
      go_wp2_with fail
      exact ⟨rfl, _, results_row_tmp rfl _ _ (w.heap.size + 1 + 1) 27 (tokV U B dd).toArray (0, 0) _ rfl R9.out Tryd.underlying27 rfl hzV.out _ rfl, B, dd, rfl, s9, (fun a ha => by have := hap.out a ha; have := hgt.out; omega), hb9⟩
end Go.Proofs.YtcbilopdeiapjaaDoor

/- LAYER 20: package third: Lock, Hide. -/
namespace Go.Proofs.YtcbilopdeiapjaaDoor
set_option maxRecDepth 100000
open Go Go.RowKit

set_option maxHeartbeats 4000000 in
theorem plock20_T (key nonce root cond : List UInt8) (hk : key.length = 32) (hn : nonce.length = 32) (hr : root.length = 32) (hc : cond.length ≤ 10000) (w : World) (hT : Tabs w) :
    Calls Tryd.prog 14 #[.agg (byts key).toArray, .agg (byts nonce).toArray, .agg (byts root).toArray, .string (bstr cond)] w fun e w' => e = .returned (.string (bstr (lockL key nonce root cond))) ∧ Below w.heap.size w w' := by
  have hkz := Lib.hid (show (Tryd.prog.info? 25).map (·.size) = some (byts key).length by rw [tag_fit key hk]; exact size_tag)
  have hnz := Lib.hid (show (Tryd.prog.info? 25).map (·.size) = some (byts nonce).length by rw [tag_fit nonce hn]; exact size_tag)
  have HA := Lib.hid (show bstr root ++ bstr cond = bstr (root ++ cond) from bstr_append _ _)
  have hsz := Lib.hid (show ¬ 9223372036854775807 < (bstr root).size + (bstr cond).size by rw [size_bstr, size_bstr, hr]; omega)
  have hky := Lib.hid (fun w' (h : Tabs w') => dkey_any key hk partyU none 0 0 [] w' h ⟨.inl rfl, Nat.le_refl _, fun _ => rfl⟩ rfl (by show (5 + 1) + 0 ≤ _; decide))
  have hse := Lib.hid (fun w' (h : Tabs w') => dseal_any (keyD key partyU []) nonce (length_keyD _ _ _) hn (root ++ cond) (by rw [List.length_append, hr]; omega) w' h)
  rw [show sealL (keyD key partyU []) nonce (root ++ cond) = lockL key nonce root cond from rfl] at hse
  generalize keyD key partyU [] = kd at *
  generalize lockL key nonce root cond = LK at *
  clear hk hn hc
  go_enter Tryd.func14, Tryd.ntmps14
  go_upto_region 1 with fail
  generalize hw1 : World.alloc (World.alloc (World.alloc _ _) _) _ = w1
  obtain ⟨r1, r2, r3, hb1, -⟩ := rows3 hw1
  clear hw1
  have hcv := conv_later (sl_arr r3 hr) 32 hr.symm
  clear hr
  refine wp_region_noPanic ?_
  refine wp_region_held_drew (S := fun w' => Below w1.heap.size w1 w') (by kernel_rfl) ((Below.refl _ _).drew) (fun hHeld => ?_)
  have hB : Below w1.heap.size w1 w1.drew := (Below.refl _ _).drew
  refine rt 0 9 hHeld ?_ (hy := by intro w hS; exact run_load_op 25 (.tmp 4) rfl _ 0 rfl (byts key) _ (row_range (r1.later hS r1.lt)) Tryd.underlying25 rfl hkz.out)
  refine rt 2 11 hHeld ?_ (hy := by intro w hS; exact run_load_op 25 (.tmp 5) rfl _ 0 rfl (byts nonce) _ (row_range (r2.later hS r2.lt)) Tryd.underlying25 rfl hnz.out)
  refine rt 3 12 hHeld ?_
  refine rt 4 13 hHeld ?_ (hy := by intro w hS; have h1 := hcv w hS; go_simp; try with_reducible rfl)
  refine rt 5 14 hHeld ?_
  refine rt 6 15 hHeld ?_ (hy := by intro w hS; have h1 := hsz.out; have h2 := HA.out; go_simp; try with_reducible rfl)
  refine rc1 1 fun K hK => ?_
  go_simp
  refine (hky.out _ (hT.later (hb1.trans (hB.mono hb1.size)) (Nat.le_refl _))).mono ?_; rintro e ww11 ⟨rfl, hqw11⟩
  try go_wp2_with fail
  refine hK.out _ _ (hHeld.trans (hqw11.mono hHeld.size)) (fun hHeld => ?_)
  clear hK K
  have hB := below_step hB hqw11
  have hB1 : Below ww11.heap.size ww11 ww11 := Below.refl _ _
  refine rc1 7 fun K hK => ?_
  go_simp
  refine (hse.out _ (hT.later (hb1.trans (hB.mono hb1.size)) (Nat.le_refl _))).mono ?_; rintro e ww17 ⟨rfl, hqw17⟩
  try go_wp2_with fail
  refine hK.out _ _ (hHeld.trans (hqw17.mono hHeld.size)) (fun hHeld => ?_)
  clear hK K
  have hB := below_step hB hqw17
  have hB1 := below_step hB1 hqw17
  have hB7 : Below ww17.heap.size ww17 ww17 := Below.refl _ _
  refine rt 8 8 hHeld ?_
  refine wpAnyH_done (by kernel_rfl) ?_ _
  refine NoPanic.normal ?_
  have hbz := hb1.trans (hB.mono hb1.size)
  clear hB hHeld
  go_wp2_with fail
  go_ret
  exact ⟨rfl, hbz⟩
set_option maxHeartbeats 4000000 in
theorem phide20_T (key nonce root : List UInt8) (hk : key.length = 32) (hn : nonce.length = 32) (hr : root.length = 32) (w : World) (hT : Tabs w) :
    Calls Tryd.prog 16 #[.agg (byts key).toArray, .agg (byts nonce).toArray, .agg (byts root).toArray] w fun e w' => e = .returned (.string (bstr (hideL key nonce root))) ∧ Below w.heap.size w w' := by
  have hkz := Lib.hid (show (Tryd.prog.info? 25).map (·.size) = some (byts key).length by rw [tag_fit key hk]; exact size_tag)
  have hnz := Lib.hid (show (Tryd.prog.info? 25).map (·.size) = some (byts nonce).length by rw [tag_fit nonce hn]; exact size_tag)
  have hky := Lib.hid (fun w' (h : Tabs w') => dkey_any key hk vaultU none 0 0 [] w' h ⟨.inl rfl, Nat.le_refl _, fun _ => rfl⟩ rfl (by show (5 + 1) + 0 ≤ _; decide))
  have hse := Lib.hid (fun w' (h : Tabs w') => dseal_any (keyD key vaultU []) nonce (length_keyD _ _ _) hn root (by omega) w' h)
  rw [show sealL (keyD key vaultU []) nonce root = hideL key nonce root from rfl] at hse
  generalize keyD key vaultU [] = kd at *
  generalize hideL key nonce root = LK at *
  clear hk hn
  go_enter Tryd.func16, Tryd.ntmps16
  go_upto_region 1 with fail
  generalize hw1 : World.alloc (World.alloc (World.alloc _ _) _) _ = w1
  obtain ⟨r1, r2, r3, hb1, -⟩ := rows3 hw1
  clear hw1
  have hcv := conv_later (sl_arr r3 hr) 32 hr.symm
  clear hr
  refine wp_region_noPanic ?_
  refine wp_region_held_drew (S := fun w' => Below w1.heap.size w1 w') (by kernel_rfl) ((Below.refl _ _).drew) (fun hHeld => ?_)
  have hB : Below w1.heap.size w1 w1.drew := (Below.refl _ _).drew
  refine rt 0 7 hHeld ?_ (hy := by intro w hS; exact run_load_op 25 (.tmp 3) rfl _ 0 rfl (byts key) _ (row_range (r1.later hS r1.lt)) Tryd.underlying25 rfl hkz.out)
  refine rt 2 9 hHeld ?_ (hy := by intro w hS; exact run_load_op 25 (.tmp 4) rfl _ 0 rfl (byts nonce) _ (row_range (r2.later hS r2.lt)) Tryd.underlying25 rfl hnz.out)
  refine rt 3 10 hHeld ?_
  refine rt 4 11 hHeld ?_ (hy := by intro w hS; have h1 := hcv w hS; go_simp; try with_reducible rfl)
  refine rc1 1 fun K hK => ?_
  go_simp
  refine (hky.out _ (hT.later (hb1.trans (hB.mono hb1.size)) (Nat.le_refl _))).mono ?_; rintro e ww11 ⟨rfl, hqw11⟩
  try go_wp2_with fail
  refine hK.out _ _ (hHeld.trans (hqw11.mono hHeld.size)) (fun hHeld => ?_)
  clear hK K
  have hB := below_step hB hqw11
  have hB1 : Below ww11.heap.size ww11 ww11 := Below.refl _ _
  refine rc1 5 fun K hK => ?_
  go_simp
  refine (hse.out _ (hT.later (hb1.trans (hB.mono hb1.size)) (Nat.le_refl _))).mono ?_; rintro e ww15 ⟨rfl, hqw15⟩
  try go_wp2_with fail
  refine hK.out _ _ (hHeld.trans (hqw15.mono hHeld.size)) (fun hHeld => ?_)
  clear hK K
  have hB := below_step hB hqw15
  have hB1 := below_step hB1 hqw15
  have hB5 : Below ww15.heap.size ww15 ww15 := Below.refl _ _
  refine rt 6 6 hHeld ?_
  refine wpAnyH_done (by kernel_rfl) ?_ _
  refine NoPanic.normal ?_
  have hbz := hb1.trans (hB.mono hb1.size)
  clear hB hHeld
  go_wp2_with fail
  go_ret
  exact ⟨rfl, hbz⟩
end Go.Proofs.YtcbilopdeiapjaaDoor

/- LAYER 19: the document's Tags, End. -/
namespace Go.Proofs.YtcbilopdeiapjaaDoor
set_option maxRecDepth 100000
open Go Go.RowKit

theorem wpList_slice19 {P : Program} {w w' : World} {ops : Array Oper} {rest : List Oper} {o : Oper} {a : Act} {Q : Exit → Act → World → Prop} (hgd : o.guard = none) (ty : TypeId) (n : Nat) (parts : List (Nat × Operand)) (ho : o.op = .buildSlice ty n parts.toArray) (vals : List (Nat × Value)) (hx : parts.map (fun p => (p.1, a.eval p.2)) = vals) (v : Value)
    (hv : (Instr.buildSlice ty n vals.toArray).run P w = .ok v w') (h : wpList P ops Q rest (a.put o.dst v) w') : wpList P ops Q (o :: rest) a w := by
  refine wpList_plain hgd fun _ hK => ?_
  subst hx
  unfold Oper.wp execOp
  simp only [ho, Sem.run_bind, Sem.run_pure, Result.andThen_ok, List.map_toArray, hv]
  exact hK _ _ h
end Go.Proofs.YtcbilopdeiapjaaDoor

/- LAYER 10: package packet: numbered, flag, fields, Caveat. -/
namespace Go.Proofs.YtcbilopdeiapjaaDoor
set_option maxRecDepth 100000
open Go Go.RowKit

theorem pnumbered_any (n : Nat) (h : n < 18446744073709551616) (w : World) :
    Calls Tryd.prog 78 #[.int .u64 n] w fun e w' => e = .returned (.string (bstr (varL n))) ∧ Below w.heap.size w w' := by
  have hv := Lib.hid (show ∀ w1, Calls Tryd.prog 87 #[.slice none 0 0, .int .u64 n] w1 (GaveBytes (varL n) w1) from fun w1 => vput_any none 0 0 [] n h w1 ⟨.inl rfl, Nat.le_refl _, fun _ => rfl⟩ rfl (by decide))
  go_enter Tryd.func78, Tryd.ntmps78
  go_wp2_with (go_at_call 87; refine (hv.out _).mono ?_; rintro e w1 ⟨v1, rfl, hown1, hb1⟩; obtain ⟨A1, c1, rfl, _, hsl1⟩ := Sl.of_own hown1; have hcv := conv_bytes hsl1 _ rfl; clear hown1 hsl1)
  go_ret
  exact ⟨rfl, hb1⟩
set_option maxRecDepth 100000 in
set_option maxHeartbeats 1000000 in
theorem pfields_any (c : Cav) (hp : c.party < 18446744073709551616) (w : World) :
    Calls Tryd.prog 63 #[.agg (cavV c).toArray] w fun e w' => ∃ A d, e = .returned (.slice A (cavF c).length d) ∧ Sl w' A (d * 2) ((cavF c).flatMap fdV) ∧ Below w.heap.size w w' := by
  obtain ⟨third, text, party, id, vault⟩ := c
  have hnum := Lib.hid (pnumbered_any party hp)
  have hb1 : Below w.heap.size w (w.alloc (.cells (cavV ⟨third, text, party, id, vault⟩).toArray 48)) := (Below.refl _ _).alloc (Nat.le_refl _) _
  have hr : Row (w.alloc (.cells (cavV ⟨third, text, party, id, vault⟩).toArray 48)) w.heap.size 48 (cavV ⟨third, text, party, id, vault⟩) := Row.new w 48 _
  unfold cavV at *
  cases third
  · go_enter Tryd.func63, Tryd.ntmps63
    go_wp2
    go_ret
    exact ⟨_, 1, rfl, ⟨Rd.block (fr := (0, 0)) (t := 113) (heap_alloc2_new w _ _), Nat.le_refl _, fun h => by cases h⟩, hb1.alloc hb1.size _⟩
  · go_enter Tryd.func63, Tryd.ntmps63
    go_wp2_with fail
    generalize hw1 : World.alloc w _ = w1 at hb1 hr ⊢
    clear hw1
    have hc0 : ∀ w', Below w1.heap.size w1 w' → w'.cell? ⟨w.heap.size, 2, none⟩ = some (.int .u64 party) := fun w' h => by rw [(hr.later h hr.lt).cell]; rfl
    have hc1 : ∀ w', Below w1.heap.size w1 w' → w'.cell? ⟨w.heap.size, 3, none⟩ = some (.string (bstr id)) := fun w' h => by rw [(hr.later h hr.lt).cell]; rfl
    have hc2 : ∀ w', Below w1.heap.size w1 w' → w'.cell? ⟨w.heap.size, 4, none⟩ = some (.string (bstr vault)) := fun w' h => by rw [(hr.later h hr.lt).cell]; rfl
    refine wp_region_noPanic ?_
    refine wp_region_held_drew (S := fun w' => Below w1.heap.size w1 w') (by kernel_rfl) ((Below.refl _ _).drew) (fun hHeld => ?_)
    refine rt 0 10 hHeld ?_
    refine rt 1 11 hHeld ?_
    refine rt 4 14 hHeld ?_
    refine rt 5 15 hHeld ?_
    refine rt 6 16 hHeld ?_
    refine rt 7 17 hHeld ?_
    refine rt 8 18 hHeld ?_
    refine rt 9 19 hHeld ?_
    refine rc1 2 fun K hK => ?_
    go_simp
    refine (hnum.out _).mono ?_; rintro e w2 ⟨rfl, hb2⟩; have hq2 := hHeld.trans (hb2.mono hHeld.size)
    try go_wp2_with fail
    refine hK.out _ _ (hq2) (fun hHeld => ?_)
    clear hK K
    refine rt 3 13 hHeld ?_
    refine rc1 10 fun K hK => ?_
    refine step_alloc (some 20) rfl (by rfl) (.slice (some ⟨w2.heap.size, 0, none⟩) 3 3) (.cells (([(4, varL party), (5, id), (6, vault)] : List Fd).flatMap fdV).toArray 113) (by go_simp; try rfl) ?_; intro w3 hw3 hb3; have hsl : Sl w3 (some ⟨w2.heap.size, 0, none⟩) (3 * 2) (([(4, varL party), (5, id), (6, vault)] : List Fd).flatMap fdV) := (by rw [hw3]; exact ⟨Rd.block (Go.heap_alloc_new w2 _), Nat.le_refl _, fun h => by cases h⟩); have hq3 := hHeld.trans (hb3.mono hHeld.size); clear hw3
    refine rk hK (hq3) fun hHeld => ?_
    clear hK K
    refine rt 11 2 hHeld ?_
    refine wpAnyH_done (by kernel_rfl) ?_ _
    refine NoPanic.normal ?_
    go_wp2
    go_ret
    exact ⟨_, 3, rfl, hsl, hb1.trans (hq3.mono hb1.size)⟩
theorem joinL_cav {c : Cav} (hm : capC c ≤ 100000) : (joinL (cavF c)).length ≤ 1000000 := by
  unfold capC at hm
  have h := fieldsL_len 100000 (cavF c) (fun f hf => by
    have hv := length_varL c.party
    unfold cavF at hf
    by_cases ht : c.third = true
    · rw [if_pos ht] at hf
      simp only [List.mem_cons, List.not_mem_nil, or_false] at hf
      rcases hf with rfl | rfl | rfl
      · show (varL c.party).length ≤ 100000; omega
      · show c.id.length ≤ 100000; omega
      · show c.vault.length ≤ 100000; omega
    · rw [if_neg ht] at hf
      rw [List.mem_singleton.1 hf]
      show c.text.length ≤ 100000; omega)
  have h3 := cavF_len c
  have : (cavF c).length * (100000 + 11) ≤ 3 * (100000 + 11) := Nat.mul_le_mul_right _ h3
  omega
theorem pcav_any (c : Cav) (hp : c.party < 18446744073709551616) (hm : capC c ≤ 100000) (w : World) :
    Calls Tryd.prog 48 #[.agg (cavV c).toArray] w (GaveBytes (joinL (cavF c)) w) := by
  have hf := Lib.hid (pfields_any c hp)
  have hj := Lib.hid (show ∀ A d w1, Sl w1 A (d * 2) ((cavF c).flatMap fdV) → Calls Tryd.prog 62 #[.slice A (cavF c).length d] w1 (GaveBytes (joinL (cavF c)) w1) from fun A d w1 h => fjoin_any A (cavF c).length d (cavF c) w1 h rfl (joinL_cav hm))
  have hb1 := (Below.refl w.heap.size w).alloc (Nat.le_refl _) (.cells (cavV c).toArray 48)
  generalize joinL (cavF c) = L at *
  generalize cavF c = F at *
  unfold cavV at *
  clear hp hm
  have hsz : ∀ w6, Below w.heap.size w w6 → w.heap.size ≤ w6.heap.size := fun _ h => h.size
  go_enter Tryd.func48, Tryd.ntmps48
  go_wp2_with (first
    | (go_at_call 63; refine (hf.out _).mono ?_; rintro e w6 ⟨A6, d6, rfl, hs6, hb6⟩; have hbw6 := hb1.trans (hb6.mono hb1.size))
    | (go_at_call 62; refine (hj.out _ _ _ hs6).mono ?_; rintro e w7 ⟨v7, rfl, hown7, hb7⟩))
  go_ret
  exact ⟨_, rfl, own_mono hown7 hbw6.size, hbw6.trans (hb7.mono hbw6.size)⟩
end Go.Proofs.YtcbilopdeiapjaaDoor

/- LAYER 10: what Encode and Check answer: lists alone. -/
namespace Go.Proofs.YtcbilopdeiapjaaDoor
set_option maxRecDepth 100000
open Go Go.RowKit

def errT (t : Tok) : Int := if checkT t then 0 else 1
end Go.Proofs.YtcbilopdeiapjaaDoor

/- LAYER 10: package packet: can, Check. -/
namespace Go.Proofs.YtcbilopdeiapjaaDoor
set_option maxRecDepth 100000
open Go Go.RowKit

set_option maxHeartbeats 1000000 in
theorem pcan_any (c : Cav) (w : World) :
    Calls Tryd.prog 46 #[.agg (cavV c).toArray] w fun e w' => e = .returned (.bool (canC c)) ∧ Below w.heap.size w w' := by
  obtain ⟨third, text, party, id, vault⟩ := c
  have h1 := size_bstr text
  have h2 := size_bstr id
  have h3 := size_bstr vault
  have e1 := bstr_toList text
  have e2 := bstr_toList id
  have e3 := bstr_toList vault
  unfold cavV
  cases third
  · go_enter Tryd.func46, Tryd.ntmps46
    go_wp2
    all_goals go_ret
    all_goals refine ⟨?_, (Below.refl _ _).alloc (Nat.le_refl _) _⟩
    all_goals simp_all [canC]
    all_goals first | (intro; omega) | (have hq : text.length ≤ 512 := (by omega); cases vault <;> simp [hq]) | (have hq : id.length ≤ 1024 := (by omega); rw [decide_eq_true hq, Bool.true_and]; exact decide_eq_decide.2 (by omega)) | omega
  · go_enter Tryd.func46, Tryd.ntmps46
    go_wp2
    all_goals go_ret
    all_goals refine ⟨?_, (Below.refl _ _).alloc (Nat.le_refl _) _⟩
    all_goals simp_all [canC]
    all_goals first | (intro; omega) | (have hq : text.length ≤ 512 := (by omega); cases vault <;> simp [hq]) | (have hq : id.length ≤ 1024 := (by omega); rw [decide_eq_true hq, Bool.true_and]; exact decide_eq_decide.2 (by omega))
theorem pnot_any (c : Cav) (w : World) :
    Calls Tryd.prog 45 #[.agg (cavV c).toArray] w fun e w' => e = .returned (.bool (!canC c)) ∧ Below w.heap.size w w' := by
  have hcan := Lib.hid (pcan_any c)
  have hb1 := (Below.refl w.heap.size w).alloc (Nat.le_refl _) (.cells (cavV c).toArray 48)
  unfold cavV at *
  generalize canC c = r at *
  go_enter Tryd.func45, Tryd.ntmps45
  go_wp2_with (go_at_call 46; refine (hcan.out _).mono ?_; rintro e w6 ⟨rfl, hb6⟩; have hbw6 := hb1.trans (hb6.mono hb1.size))
  go_ret
  exact ⟨rfl, hbw6⟩
set_option maxRecDepth 100000 in
set_option maxHeartbeats 2000000 in
theorem pindex_any (A : Option Addr) (c : Nat) (cs : List Cav) (w : World) (hs : Sl w A (c * 5) (cs.flatMap cavV)) (hm : cs.length ≤ 1000000) :
    Calls Tryd.prog 61 #[.slice A cs.length c, .func (.func 45) #[] #[]] w fun e w' => ∃ r : Int, e = .returned (.int .i64 r) ∧ (r = -1 ∧ cs.all canC = true ∨ 0 ≤ r ∧ cs.all canC = false) ∧ Below w.heap.size w w' := by
  have h2' : (cs.length : Int) ≤ 1000000 := by omega
  go_enter Tryd.func61, Tryd.ntmps61
  go_wp2_with fail
  go_loopw [8] (fun i wr => ∃ k : Nat, k ≤ cs.length ∧ i = .int .i64 k ∧ (cs.take k).all canC = true ∧ Below w.heap.size w wr) (fun i _ => cs.length - (intOf i).toNat)
  case atStart => exact ⟨0, by omega, rfl, rfl, Below.refl _ _⟩
  case round =>
    obtain ⟨k, hk, rfl, hall, hb⟩ := hrel
    by_cases hlt : k < cs.length
    · obtain ⟨cv, hcv⟩ : ∃ cv, cs[k]? = some cv := ⟨_, List.getElem?_eq_getElem hlt⟩
      obtain ⟨b, o, rfl, hb0, hr0⟩ := hs.rd.get (i := 0) (by rw [length_cavsV]; omega)
      clear hb0 hr0
      have hix := index_cav (some ⟨b, o, none⟩) b o cs.length c k rfl hlt
      have hrg := (hs.later (Nat.le_refl _) hb).thing (k := 5) (fun _ _ => rfl) k cv hcv
      have HA := Lib.hid (all_take hall hcv)
      have HB := Lib.hid (all_bad hcv)
      have hcan := Lib.hid (pnot_any cv)
      have hzf := Lib.hid (show (Tryd.prog.info? 48).map (·.size) = some (cavV cv).length from size_cav)
      obtain ⟨V2, hV2q⟩ : ∃ V, V = cavV cv := ⟨_, rfl⟩
      rw [← hV2q] at hrg hcan hzf
      clear hV2q hcv hall
      generalize canC cv = r at *
      go_wp2_with (first
        | (with_reducible refine wpList_load_mid rfl 48 (.tmp 14) rfl b (o + k * 5) rfl V2 _ hrg Tryd.underlying48 rfl hzf.out ?_)
        | (go_at_call 45; refine (hcan.out _).mono ?_; rintro e w6 ⟨rfl, hb6⟩; have hbw6 := hb.trans (hb6.mono hb.size); cases r))
      · go_ret
        exact ⟨k, rfl, .inr ⟨by omega, HB.out (by first | rfl | trivial)⟩, hbw6⟩
      · go_roundw
        case rel => exact ⟨k + 1, by omega, by go_num, HA.out, hbw6⟩
        case measure => simp [intOf]; omega
    · obtain rfl : k = cs.length := by omega
      rw [List.take_length] at hall
      clear hlt hk hs
      generalize cs.length = n at *
      go_wp2
      go_ret
      exact ⟨-1, rfl, .inl ⟨rfl, hall⟩, hb⟩
theorem phas_any (A : Option Addr) (c : Nat) (cs : List Cav) (w : World) (hs : Sl w A (c * 5) (cs.flatMap cavV)) (hm : cs.length ≤ 1000000) :
    Calls Tryd.prog 47 #[.slice A cs.length c, .func (.func 45) #[] #[]] w fun e w' => e = .returned (.bool (!cs.all canC)) ∧ Below w.heap.size w w' := by
  have hi := Lib.hid (pindex_any A c cs w hs hm)
  generalize cs.all canC = r at *
  generalize cs.length = n at *
  clear hs
  go_enter Tryd.func47, Tryd.ntmps47
  go_wp2_with (go_at_call 61; refine hi.out.mono ?_; rintro e w6 ⟨x, rfl, hx, hb6⟩)
  · rcases hx with ⟨rfl, rfl⟩ | ⟨h1, rfl⟩
    all_goals go_wp2
    all_goals go_ret
    all_goals first | exact ⟨rfl, hb6⟩ | (exfalso; omega) | trace_state
set_option maxRecDepth 100000 in
set_option maxHeartbeats 2000000 in
theorem pcheck_any (t : Tok) (_ht : t.Ok) (_hf : t.Fit) (A : Option Addr) (c : Nat) (w : World) (hs : Sl w A (c * 5) (t.cavs.flatMap cavV)) :
    Calls Tryd.prog 32 #[.agg (tokV t A c).toArray] w fun e w' => e = .returned (.int .i64 (errT t)) ∧ Below w.heap.size w w' := by
  have hb1 : Below w.heap.size w (w.alloc (.cells (tokV t A c).toArray 27)) := (Below.refl _ _).alloc (Nat.le_refl _) _
  have hr : Row (w.alloc (.cells (tokV t A c).toArray 27)) w.heap.size 27 (tokV t A c) := Row.new w 27 _
  have hg := tokV_get t A c
  obtain ⟨V, hV⟩ : ∃ V, V = tokV t A c := ⟨_, rfl⟩
  rw [← hV] at hb1 hr hg ⊢
  clear hV
  have hc1 : (w.alloc (.cells V.toArray 27)).cell? ⟨w.heap.size, 1, none⟩ = some (.string (bstr t.id)) := by rw [hr.cell]; exact hg.2.1
  have hc2 : (w.alloc (.cells V.toArray 27)).cell? ⟨w.heap.size, 2, none⟩ = some (.slice A t.cavs.length c) := by rw [hr.cell]; exact hg.2.2.1
  have hz := size_bstr t.id
  clear hg hr
  obtain ⟨E, hE⟩ : ∃ E, E = errT t := ⟨_, rfl⟩
  rw [← hE]
  unfold errT at hE
  replace hE := Lib.hid hE
  by_cases h1 : 1024 < t.id.length
  · have HE := Lib.hid (check_id h1)
    have h1' : (1024 : Int) < (t.id.length : Int) := by omega
    clear hs h1
    go_enter Tryd.func32, Tryd.ntmps32
    go_wp2
    go_ret
    exact ⟨by rw [hE.out, HE.out]; rfl, hb1⟩
  by_cases h2 : 64 < t.cavs.length
  · have HE := Lib.hid (check_many h2)
    have h1' : (t.id.length : Int) ≤ 1024 := by omega
    have h2' : (64 : Int) < (t.cavs.length : Int) := by omega
    clear hs h1 h2
    go_enter Tryd.func32, Tryd.ntmps32
    go_wp2
    go_ret
    exact ⟨by rw [hE.out, HE.out]; rfl, hb1⟩
  have HE := Lib.hid (check_cavs (t := t) (by omega) (by omega))
  have h1' : (t.id.length : Int) ≤ 1024 := by omega
  have h2' : (t.cavs.length : Int) ≤ 64 := by omega
  have hhas := Lib.hid (fun w1 h => phas_any A c t.cavs w1 h (by omega))
  generalize t.cavs.all canC = r at *
  have hs1 := hs.later (Nat.le_refl _) hb1
  clear h1 h2 hs
  go_enter Tryd.func32, Tryd.ntmps32
  go_wp2_with (go_at_call 47; refine (hhas.out _ hs1).mono ?_; rintro e w6 ⟨rfl, hb6⟩; have hbw6 := hb1.trans (hb6.mono hb1.size); cases r)
  all_goals go_ret
  all_goals exact ⟨by rw [hE.out, HE.out]; rfl, hbw6⟩
end Go.Proofs.YtcbilopdeiapjaaDoor

/- ARRAYS OF BYTES, compared. -/
namespace Go.Proofs.YtcbilopdeiapjaaDoor
set_option maxRecDepth 100000
open Go Go.RowKit

theorem cells_byte : Tryd.prog.cellsOf 5 = 1 := by kernel_rfl
theorem part_byte (xs : List UInt8) (i : Nat) (h : i < xs.length) (w : World) : (Go.part 5 (byts xs).toArray (i * 1)).run Tryd.prog w = .ok (.int .u8 ((xs.getD i 0).toNat : Int)) w := by
  have hc : (byts xs).toArray[i * 1]? = some (.int .u8 ((xs.getD i 0).toNat : Int)) := by
    rw [Nat.mul_one, List.getElem?_toArray, get_byts _ _ h]
  simp only [Go.part, isAgg, Sem.run_bind, run_underlying Tryd.underlying5, Result.andThen_ok, Sem.run_pure, hc]
  rfl
theorem run_items (xs ys : List UInt8) (is : List Nat) (hx : ∀ i ∈ is, i < xs.length) (hy : ∀ i ∈ is, i < ys.length) (w : World) :
    (Op.eqItems 9999 5 1 (byts xs).toArray (byts ys).toArray is).run Tryd.prog w = .ok (is.all fun i => decide (xs.getD i 0 = ys.getD i 0)) w := by
  induction is with
  | nil => simp [Op.eqItems]
  | cons i is ih =>
    have h := ih (fun j hj => hx j (by simp [hj])) (fun j hj => hy j (by simp [hj]))
    simp only [Op.eqItems, Sem.run_bind, part_byte xs i (hx i (by simp)) w, part_byte ys i (hy i (by simp)) w, Result.andThen_ok, run_equalIn_int w 9998 5 .u8 .u8 _ _ Tryd.underlying5, List.all_cons]
    generalize xs.getD i 0 = a
    generalize ys.getD i 0 = b
    by_cases e : a = b
    · subst e
      simp only [BEq.rfl, Bool.not_true, Bool.false_eq_true, if_false, decide_true, Bool.true_and, h]
    · have e' : ((a.toNat : Int) == (b.toNat : Int)) = false := by
        rw [beq_eq_false_iff_ne]
        intro h
        exact e (UInt8.toNat_inj.1 (by omega))
      simp only [e', e, Bool.not_false, if_true, decide_false, Bool.false_and, Sem.run_pure]
theorem all_getD (xs ys : List UInt8) (h : xs.length = ys.length) : ((List.range xs.length).all fun i => decide (xs.getD i 0 = ys.getD i 0)) = decide (xs = ys) := by
  rw [Bool.eq_iff_iff, List.all_eq_true, decide_eq_true_iff]
  constructor
  · intro hall
    apply List.ext_getElem h
    intro i h1 h2
    have := hall i (by simpa using h1)
    simpa [h1, h2] using this
  · rintro rfl i _
    simp
/-- Two arrays of bytes, compared. -/
theorem run_eq_bytes (t : TypeId) (n : Nat) (i0 : TypeInfo) (hu : Tryd.prog.underlying t = some (.array n 5)) (hi : Tryd.prog.info? 5 = some i0) (xs ys : List UInt8) (hx : xs.length = n) (hy : ys.length = n) (w : World) :
    (Op.equalIn 10000 t (.agg (byts xs).toArray) (.agg (byts ys).toArray)).run Tryd.prog w = .ok (decide (xs = ys)) w := by
  rw [run_equalIn_array w 9999 _ _ hu hi, cells_byte, run_items xs ys (List.range n) (fun i h => by rw [hx]; simpa using h) (fun i h => by rw [hy]; simpa using h) w, ← hx, all_getD xs ys (by rw [hx, hy])]
end Go.Proofs.YtcbilopdeiapjaaDoor

/- LAYER 10: package packet: Same, Clone. -/
namespace Go.Proofs.YtcbilopdeiapjaaDoor
set_option maxRecDepth 100000
open Go Go.RowKit

theorem nil_none (w : World) : (binOp BinOp.eql 23 (.slice none 0 0) (.slice none 0 0)).run Tryd.prog w = .ok (.bool true) w := by kernel_rfl
theorem own_baseP {w : World} {b b' t k n : Nat} {v : Value} {xs : List Value} (h : w.ownsRow b t k v n xs) (hb : b' ≤ b) : w.ownsRow b' t k v n xs := by
  obtain ⟨hl, h | ⟨g, cap, cur, rfl, hg, h⟩⟩ := h
  · exact ⟨hl, .inl h⟩
  · exact ⟨hl, .inr ⟨g, cap, cur, rfl, Nat.le_trans hb hg, h⟩⟩
theorem nil_some (ad : Addr) (n c : Nat) (w : World) : (binOp BinOp.eql 23 (.slice (some ad) n c) (.slice none 0 0)).run Tryd.prog w = .ok (.bool false) w := by kernel_rfl
set_option maxRecDepth 100000 in
set_option maxHeartbeats 2000000 in
theorem psclone_own (cs : List Cav) (hm : cs.length ≤ 1000000) (A : Option Addr) (c : Nat) (w : World) (hs : Sl w A (c * 5) (cs.flatMap cavV)) :
    Calls Tryd.prog 44 #[.slice A cs.length c] w fun e w' => ∃ B d, e = .returned (.slice B cs.length d) ∧ w'.ownsRow w.heap.size 48 5 (.slice B cs.length d) cs.length (cs.flatMap cavV) ∧ Below w.heap.size w w' := by
  cases A with
  | none =>
    have h0 : cs.length = 0 := by
      have h1 := hs.bare rfl
      have h2 := hs.room
      rw [length_cavsV] at h2
      omega
    have hc : c = 0 := by
      have h1 := hs.bare rfl
      omega
    obtain rfl : cs = [] := List.eq_nil_of_length_eq_zero h0
    subst hc
    clear h0
    have hnil := nil_none
    go_enter Tryd.func44, Tryd.ntmps44
    go_wp2
    go_ret
    exact ⟨none, 0, rfl, World.ownsRow_nil w _ _ _, Below.refl _ _⟩
  | some ad =>
    obtain ⟨i0, hi, hz0, hz1, hz2⟩ := info_cav
    have HF := Lib.hid (length_cavsV cs)
    have hone := Lib.hid (cavV_one cs)
    have n1 : 0 + cs.length ≤ maxLen := by unfold maxLen; omega
    have n2 : (0 + cs.length) * 64 ≤ 140737488355328 := by omega
    have hb1 := (Below.refl w.heap.size w).alloc (Nat.le_refl _) (.cells #[] 48)
    have hs1 := hs.later (Nat.le_refl _) hb1
    have hown1 : (w.alloc (.cells #[] 48)).ownsRow w.heap.size 48 5 (.slice (some ⟨w.heap.size, 0, none⟩) 0 0) 0 [] := World.ownsRow_lit w _ 0 (Nat.le_refl _) (by decide) rfl
    generalize hw1 : w.alloc (.cells #[] 48) = w1 at hb1 hs1 hown1
    have HW := Lib.hid hw1
    clear hw1 hs
    generalize cs.length = n at *
    have hnil := nil_some ad n c
    go_enter Tryd.func44, Tryd.ntmps44
    go_wp2_with (at_builtin; rw [HW.out]; refine wpList_append_k rfl (.tmp 5) (.tmp 6) 23 rfl w.heap.size 48 i0 _ 5 64 Tryd.underlying23 hi hz0 hz1 (by omega) hz2 rfl _ 0 [] rfl hown1 (some ad) n c (cs.flatMap cavV) rfl HF.out hs1 hone.out n1 n2 hb1.size ?_; intro v7 w7 hown7 hg7; have hb7 := hb1.grown hg7 hb1.size (fun k hk => (hown1.lt k hk).1))
    rw [List.nil_append, Nat.zero_add] at hown7
    obtain ⟨A7, c7, rfl, _, _⟩ := Sl.of_ownk hown7
    replace hown7 := Lib.hid hown7
    go_ret
    exact ⟨A7, c7, rfl, hown7.out, hb7⟩
set_option maxRecDepth 100000 in
set_option maxHeartbeats 2000000 in
theorem pclone_own (t : Tok) (ht : t.Ok) (hm : t.cavs.length ≤ 1000000) (A : Option Addr) (c : Nat) (w : World) (hs : Sl w A (c * 5) (t.cavs.flatMap cavV)) :
    Calls Tryd.prog 31 #[.agg (tokV t A c).toArray] w fun e w' => ∃ B d, e = .returned (.agg (tokV t B d).toArray) ∧ w'.ownsRow w.heap.size 48 5 (.slice B t.cavs.length d) t.cavs.length (t.cavs.flatMap cavV) ∧ Below w.heap.size w w' := by
  have hck := Lib.hid (fun w1 h => psclone_own t.cavs hm A c w1 h)
  have hg := tokV_get t A c
  have hVs := Lib.hid (fun B d => show (tokV t A c).set 2 (.slice B t.cavs.length d) = tokV t B d from rfl)
  have hlen := Lib.hid (fun B d => length_tokV ht B d)
  have hone := Lib.hid (fun B d => all_one (tokV_one t B d))
  obtain ⟨V, hV⟩ : ∃ V, V = tokV t A c := ⟨_, rfl⟩
  rw [← hV] at hg hVs ⊢
  clear hV
  have c2 : ((w.alloc (.cells V.toArray 27)).alloc (.cells [Value.int .u64 0, .string { data := #[] }, .slice none 0 0, .bool false, .int .u8 0, .int .u8 0, .int .u8 0, .int .u8 0, .int .u8 0, .int .u8 0, .int .u8 0, .int .u8 0, .int .u8 0, .int .u8 0, .int .u8 0, .int .u8 0, .int .u8 0, .int .u8 0, .int .u8 0, .int .u8 0, .int .u8 0, .int .u8 0, .int .u8 0, .int .u8 0, .int .u8 0, .int .u8 0, .int .u8 0, .int .u8 0, .int .u8 0, .int .u8 0, .int .u8 0, .int .u8 0, .int .u8 0, .int .u8 0, .int .u8 0, .int .u8 0].toArray 27)).cell? ⟨w.heap.size, 2, none⟩ = some (.slice A t.cavs.length c) := by rw [(two_rows (w := w) (A := V) (B := [Value.int .u64 0, .string { data := #[] }, .slice none 0 0, .bool false, .int .u8 0, .int .u8 0, .int .u8 0, .int .u8 0, .int .u8 0, .int .u8 0, .int .u8 0, .int .u8 0, .int .u8 0, .int .u8 0, .int .u8 0, .int .u8 0, .int .u8 0, .int .u8 0, .int .u8 0, .int .u8 0, .int .u8 0, .int .u8 0, .int .u8 0, .int .u8 0, .int .u8 0, .int .u8 0, .int .u8 0, .int .u8 0, .int .u8 0, .int .u8 0, .int .u8 0, .int .u8 0, .int .u8 0, .int .u8 0, .int .u8 0, .int .u8 0]) (tA := 27) (tB := 27) rfl).1.cell]; exact hg.2.2.1
  go_enter Tryd.func31, Tryd.ntmps31
  go_wp2_with fail
  generalize hw2 : World.alloc (World.alloc w _) _ = w2 at c2 ⊢
  obtain ⟨r0, r1, hb1, hsz⟩ := two_rows (A := V) (B := [Value.int .u64 0, .string { data := #[] }, .slice none 0 0, .bool false, .int .u8 0, .int .u8 0, .int .u8 0, .int .u8 0, .int .u8 0, .int .u8 0, .int .u8 0, .int .u8 0, .int .u8 0, .int .u8 0, .int .u8 0, .int .u8 0, .int .u8 0, .int .u8 0, .int .u8 0, .int .u8 0, .int .u8 0, .int .u8 0, .int .u8 0, .int .u8 0, .int .u8 0, .int .u8 0, .int .u8 0, .int .u8 0, .int .u8 0, .int .u8 0, .int .u8 0, .int .u8 0, .int .u8 0, .int .u8 0, .int .u8 0, .int .u8 0]) (tA := 27) (tB := 27) hw2
  have hs1 := hs.later (Nat.le_refl _) hb1
  have hlt0 := r0.lt
  have hlt1 := r1.lt
  obtain ⟨Z, hZ⟩ : ∃ Z : List Value, Z = [Value.int .u64 0, .string { data := #[] }, .slice none 0 0, .bool false, .int .u8 0, .int .u8 0, .int .u8 0, .int .u8 0, .int .u8 0, .int .u8 0, .int .u8 0, .int .u8 0, .int .u8 0, .int .u8 0, .int .u8 0, .int .u8 0, .int .u8 0, .int .u8 0, .int .u8 0, .int .u8 0, .int .u8 0, .int .u8 0, .int .u8 0, .int .u8 0, .int .u8 0, .int .u8 0, .int .u8 0, .int .u8 0, .int .u8 0, .int .u8 0, .int .u8 0, .int .u8 0, .int .u8 0, .int .u8 0, .int .u8 0, .int .u8 0] := ⟨_, rfl⟩
  have hzl : Z.toArray.size = 36 := by rw [hZ]; rfl
  rw [← hZ] at r1
  clear hsz hw2 hs hZ c2
  have hsz36 := Lib.hid (show (Tryd.prog.info? 27).map (·.size) = some 36 from size_tok)
  go_wp2_with (first
    | (go_at_call 44; refine (hck.out _ hs1).mono ?_; rintro e w3 ⟨B, d, rfl, hown3, hb3⟩; replace hown3 := Lib.hid hown3; have hfz3 := (r0.later hb3 hlt0).free 2; have hcl3 : w3.cell? ⟨w.heap.size, 2, none⟩ = some (.slice A t.cavs.length c) := (by rw [(r0.later hb3 hlt0).cell]; exact hg.2.2.1); obtain ⟨V4, hV4⟩ : ∃ V4, V4 = tokV t B d := ⟨_, rfl⟩; have hl4 : V4.toArray.size = 36 := (by rw [hV4, List.size_toArray]; exact hlen.out B d); have hone4 := Lib.hid (show V4.toArray.all (·.oneCell') = true by rw [hV4]; exact hone.out B d); have R4 := Lib.hid (show (w3.setCell ⟨w.heap.size, 2, none⟩ (.slice B t.cavs.length d)).heap[w.heap.size]? = some (.cells V4.toArray 27 (0, 0)) by rw [hV4, ← hVs.out]; exact (r0.later hb3 hlt0).set 2 _); have RZ := Lib.hid (show (w3.setCell ⟨w.heap.size, 2, none⟩ (.slice B t.cavs.length d)).heap[w.heap.size + 1]? = some (.cells Z.toArray 27 (0, 0)) from (r1.later hb3 hlt1).far _ _ (by show w.heap.size + 1 ≠ w.heap.size; omega)); have hzf4 := Lib.hid (show (Tryd.prog.info? 27).map (·.size) = some V4.toArray.size by rw [hl4]; exact hsz36.out); have hzz := Lib.hid (show Z.toArray.size = V4.toArray.size by rw [hl4, hzl]); have HV4 := Lib.hid hV4; clear hV4 hl4)
    | (with_reducible refine wpList_load_row rfl 27 (.tmp 1) rfl w.heap.size rfl 27 V4.toArray (0, 0) _ R4.out Tryd.underlying27 rfl hzf4.out ?_)
    | (with_reducible refine wpList_store_row rfl 27 (.tmp 2) (.tmp 7) rfl (w.heap.size + 1) V4.toArray rfl rfl 27 Z.toArray RZ.out hzf4.out hzz.out hone4.out ?_; refine Hid.out ?_))
  refine Lib.hid ?_
  generalize hw9 : World.setRow _ _ _ = w9
  obtain ⟨r9, hg9⟩ := row_set (xs := V4) (show Row _ (w.heap.size + 1) 27 Z from RZ.out) hw9
  have R9 := Lib.hid (show w9.heap[w.heap.size + 1]? = some (.cells V4.toArray 27 (0, 0)) from r9)
  have hb4 := (hb1.trans (hb3.mono hb1.size)).grown (grown_setCell w3 w.heap.size 2 (.slice B t.cavs.length d)) (hb1.trans (hb3.mono hb1.size)).size (fun k h => by cases h; exact Nat.le_refl _)
  have hb9 := hb4.grown hg9 hb4.size (fun k h => by cases h; exact Nat.le_succ _)
  have own9 := Lib.hid (ownk_grown (ownk_grown hown3.out (grown_setCell w3 w.heap.size 2 (.slice B t.cavs.length d)) hlt0) hg9 hlt1)
  clear hw9 r9 hg9 hzz hzl hfz3 hcl3
  go_wp2_with (with_reducible refine bodyPost_ret (results_cell_row rfl _ _ (w.heap.size + 1) 27 V4.toArray (0, 0) _ rfl R9.out Tryd.underlying27 rfl hzf4.out) rfl ?_)
  exact ⟨B, d, by rw [HV4.out], own_baseP own9.out hb1.size, hb9⟩
end Go.Proofs.YtcbilopdeiapjaaDoor
