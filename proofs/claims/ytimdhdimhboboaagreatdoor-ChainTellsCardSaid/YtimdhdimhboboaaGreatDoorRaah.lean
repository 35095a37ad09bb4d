/- Texts of this claim, one behind the other. -/
import Derived.Test.YtimdhdimhboboaaGreatDoorRaag
import Derived.Test.YtimdhdimhboboaaGreatDoorRaaf
import Derived.Deep.DeepCutAuto
import Derived.Test.YtimdhdimhboboaaGreatDoorRaab
/- LAYER 10: the law's Great. -/
namespace Go.Proofs.YtimdhdimhboboaaGreatDoor
set_option maxRecDepth 100000
open Go Go.RowKit

def capC (c : Cav) : Nat := c.text.length + c.id.length + c.vault.length + 1
/-- How much there is of a token. -/
def capT (t : Tok) : Nat := t.id.length + (t.cavs.map capC).sum
structure Tok.Fit (t : Tok) : Prop where
  id : t.id.length ≤ 140737488351232
  many : t.cavs.length ≤ 9223372036854775807
  cav : ∀ c ∈ t.cavs, c.text.length ≤ 140737488351232 ∧ c.id.length ≤ 140737488351232 ∧ c.vault.length ≤ 140737488351232
theorem capT_succ (cs : List Cav) (k : Nat) (c : Cav) (h : cs[k]? = some c) : ((cs.take (k + 1)).map capC).sum = ((cs.take k).map capC).sum + capC c := by
  rw [List.take_add_one, List.map_append, List.sum_append, h]; simp
theorem capT_le (cs : List Cav) (k : Nat) : ((cs.take k).map capC).sum ≤ (cs.map capC).sum := by
  have e : cs = cs.take k ++ cs.drop k := (List.take_append_drop k cs).symm
  conv => rhs; rw [e]
  rw [List.map_append, List.sum_append]; omega
theorem capT_len : ∀ cs : List Cav, cs.length ≤ (cs.map capC).sum
  | [] => Nat.le_refl _
  | c :: cs => by
    have := capT_len cs
    have h : 1 ≤ capC c := by unfold capC; omega
    rw [List.map_cons, List.sum_cons, List.length_cons]; omega
set_option maxRecDepth 100000 in
set_option maxHeartbeats 2000000 in
theorem rgreatT_any (t : Tok) (hf : t.Fit) (A : Option Addr) (c : Nat) (w : World) (hs : Sl w A (c * 5) (t.cavs.flatMap cavV)) :
    Calls Tryz.prog 7 #[.agg (tokV t A c).toArray] w fun e w' => e = .returned (.int .i64 (if 10000 < capT t then 1 else 0)) ∧ Below w.heap.size w w' := by
  have hb1 : Below w.heap.size w (w.alloc (.cells (tokV t A c).toArray 27)) := (Below.refl _ _).alloc (Nat.le_refl _) _
  have hr : Row (w.alloc (.cells (tokV t A c).toArray 27)) w.heap.size 27 (tokV t A c) := Row.new w 27 _
  have hg := tokV_get t A c
  obtain ⟨V, hV⟩ : ∃ V, V = tokV t A c := ⟨_, rfl⟩
  rw [← hV] at hb1 hr hg ⊢
  clear hV
  have hc1 : (w.alloc (.cells V.toArray 27)).cell? ⟨w.heap.size, 1, none⟩ = some (.string (bstr t.id)) := by rw [hr.cell]; exact hg.2.1
  have hc2 : (w.alloc (.cells V.toArray 27)).cell? ⟨w.heap.size, 2, none⟩ = some (.slice A t.cavs.length c) := by rw [hr.cell]; exact hg.2.2.1
  have hz := size_bstr t.id
  obtain ⟨R, hR⟩ : ∃ R : Int, R = if 10000 < capT t then 1 else 0 := ⟨_, rfl⟩
  rw [← hR]
  have HR := Lib.hid hR
  clear hR
  have hT := Lib.hid (show capT t = t.id.length + (t.cavs.map capC).sum from rfl)
  obtain ⟨cs, hcs⟩ : ∃ cs, cs = t.cavs := ⟨_, rfl⟩
  have hid := hf.id
  have hmany := hf.many
  have hcv := hf.cav
  rw [← hcs] at hs hT hc2 hmany hcv
  have hid2 : (t.id.length : Int) ≤ 140737488351232 := by omega
  clear hg hr hcs hf
  generalize t.id.length = n0 at *
  go_enter Tryz.func7, Tryz.ntmps7
  go_wp2_with fail
  generalize w.alloc (.cells V.toArray 27) = w1 at *
  clear hc1 hc2
  go_loopw [3, 12] (fun v i wr => ∃ k : Nat, k ≤ cs.length ∧ i = .int .i64 k ∧ v = .int .i64 ((n0 + ((cs.take k).map capC).sum : Nat) : Int) ∧ (k = 0 ∨ n0 + ((cs.take k).map capC).sum ≤ 10000) ∧ Below w.heap.size w wr) (fun _ i _ => cs.length - (intOf i).toNat)
  case atStart => exact ⟨0, by omega, rfl, by simp, .inl rfl, hb1⟩
  case round =>
    clear hb1
    obtain ⟨k, hk, rfl, rfl, hsm, hb⟩ := hrel
    by_cases hlt : k < cs.length
    · obtain ⟨cv, hcq⟩ : ∃ cv, cs[k]? = some cv := ⟨_, List.getElem?_eq_getElem hlt⟩
      obtain ⟨b, o, rfl, hb0, hr0⟩ := hs.rd.get (i := 0) (by rw [length_cavsV]; omega)
      clear hb0 hr0
      have hix := index_cav (some ⟨b, o, none⟩) b o cs.length c k rfl hlt
      have hrg := (hs.later (Nat.le_refl _) hb).thing (k := 5) (fun _ _ => rfl) k cv hcq
      have hsu := capT_succ cs k cv hcq
      have hle := capT_le cs (k + 1)
      have hbd := hcv cv (List.mem_of_getElem? hcq)
      have hsm2 : n0 + ((cs.take k).map capC).sum ≤ 140737488361232 := by
        rcases hsm with rfl | h
        · simp; omega
        · omega
      have hzf := Lib.hid (show (Tryz.prog.info? 29).map (·.size) = some (cavV cv).length from size_cav)
      have hzf2 := Lib.hid (show (Tryz.prog.info? 29).map (·.size) = some (cavV cv).toArray.size from size_cav)
      have hof := Lib.hid (show (cavV cv).toArray.all (·.oneCell') = true from all_one (fun v hv => cavV_one [cv] v (by simpa using hv)))
      obtain ⟨V2, hV2q⟩ : ∃ V, V = cavV cv := ⟨_, rfl⟩
      rw [← hV2q] at hrg hzf hzf2 hof
      have hV2 := Lib.hid (show (5 : Nat) = V2.toArray.size by rw [hV2q]; rfl)
      have HV2 := Lib.hid hV2q
      have z1 := size_bstr cv.text
      have z2 := size_bstr cv.id
      have z3 := size_bstr cv.vault
      rw [show capC cv = cv.text.length + cv.id.length + cv.vault.length + 1 from rfl] at hsu
      obtain ⟨hbd1, hbd2, hbd3⟩ := hbd
      generalize ((cs.take k).map capC).sum = s0 at *
      obtain ⟨s1, hs1q⟩ : ∃ s1, s1 = ((cs.take (k + 1)).map capC).sum := ⟨_, rfl⟩
      rw [← hs1q] at hsu hle
      have HS1Q := Lib.hid hs1q
      clear hs1q
      clear hV2q hcq hsm hcv
      go_wp2_with (first
        | (with_reducible refine wpList_load_mid rfl 29 (.tmp 14) rfl b (o + k * 5) rfl V2 _ hrg Tryz.underlying29 rfl hzf.out ?_)
        | (with_reducible refine wpList_store_row rfl 29 (.tmp 5) (.tmp 15) rfl wr.heap.size V2.toArray rfl rfl 29 _ (heap_alloc_new wr _) hzf2.out (Eq.trans (by kernel_rfl) hV2.out) hof.out ?_; refine Hid.out ?_))
      refine Lib.hid ?_
      generalize hw5 : World.setRow _ _ _ = w5
      obtain ⟨r5, hb5⟩ := row_new_set (xs := V2) hw5
      rw [HV2.out] at r5
      have d1 : w5.cell? ⟨wr.heap.size, 1, none⟩ = some (.string (bstr cv.text)) := by rw [r5.cell]; rfl
      have d3 : w5.cell? ⟨wr.heap.size, 3, none⟩ = some (.string (bstr cv.id)) := by rw [r5.cell]; rfl
      have d4 : w5.cell? ⟨wr.heap.size, 4, none⟩ = some (.string (bstr cv.vault)) := by rw [r5.cell]; rfl
      have hbw5 := hb.trans (hb5.mono hb.size)
      have HS1 := Lib.hid hsu
      clear hw5 r5 hb5 hrg hix
      generalize cv.text.length = q1 at *
      generalize cv.id.length = q2 at *
      generalize cv.vault.length = q3 at *
      obtain ⟨N, hN⟩ : ∃ N, N = n0 + s1 := ⟨_, rfl⟩
      have hsum : (n0 : Int) + (s0 : Int) + ((q1 : Int) + (q2 : Int) + (q3 : Int) + 1) = (N : Int) := by rw [hN, hsu]; omega
      have HN := Lib.hid hN
      have hNb : (N : Int) ≤ 9223372036854775807 := by omega
      have hq1 : (q1 : Int) ≤ 140737488351232 := by omega
      have hq2 : (q2 : Int) ≤ 140737488351232 := by omega
      have hq3 : (q3 : Int) ≤ 140737488351232 := by omega
      have hs0 : (n0 : Int) + (s0 : Int) ≤ 140737488361232 := by omega
      by_cases hbig : 10000 < N
      · have hbi : (10000 : Int) < (N : Int) := by omega
        clear hsu hN
        go_wp2
        go_ret
        refine ⟨?_, hbw5⟩
        have h1 := hT.out
        have h2 := HN.out
        rw [HR.out, if_pos (by omega)]; rfl
      · have hbi : (N : Int) ≤ 10000 := by omega
        clear hsu hN
        go_wp2_with fail
        go_roundw
        case rel => exact ⟨k + 1, by omega, by go_num, by rw [HN.out, HS1Q.out], .inr (by rw [← HS1Q.out, ← HN.out]; omega), hbw5⟩
        case measure => simp [intOf]; omega
    · obtain rfl : k = cs.length := by omega
      rw [List.take_length] at hsm ⊢
      have hT' : capT t = n0 + (cs.map capC).sum := hT.out
      generalize (cs.map capC).sum = s0 at *
      by_cases hbig : 10000 < n0 + s0
      · have hbi : (10000 : Int) < ((n0 + s0 : Nat) : Int) := by omega
        have HF := Lib.hid (HR.out.trans (if_pos (by rw [hT']; exact hbig)))
        clear hs hT' hT hsm hbig
        generalize n0 + s0 = N at *
        generalize cs.length = n at *
        go_wp2
        go_ret
        exact ⟨by rw [HF.out]; rfl, hb⟩
      · have hbi : ((n0 + s0 : Nat) : Int) ≤ 10000 := by omega
        have HF := Lib.hid (HR.out.trans (if_neg (by rw [hT']; exact hbig)))
        clear hs hT' hT hsm hbig
        generalize n0 + s0 = N at *
        generalize cs.length = n at *
        go_wp2
        go_ret
        exact ⟨by rw [HF.out]; rfl, hb⟩
end Go.Proofs.YtimdhdimhboboaaGreatDoor

/- LAYER 19: the document's Start, Next. -/
namespace Go.Proofs.YtimdhdimhboboaaGreatDoor
set_option maxRecDepth 100000
open Go Go.RowKit

/-- An operation of a region that reckons a value and makes nothing. -/
theorem step_val {P : Program} {w : World} {ops : Array Oper} {o : Oper} {a : Act} {K : Act → World → Prop} {Q : Exit → Act → World → Prop} {E : Prop} (dst : Option Tmp) (hdst : o.dst = dst) (hgd : Region.wanted o (yielded ops a.tmps) = true) (v : Value)
    (hrun : (execOp a.eval o).run P w = .ok (.value v) w) (h : K (a.put dst v) w) : if Region.wanted o (yielded ops a.tmps) = true then Oper.wp P o a w K Q else E := by
  subst hdst
  rw [if_pos hgd]
  unfold Oper.wp
  rw [hrun]
  exact h
/-- A slice literal of strings. -/
theorem slice_strs1 (x : List UInt8) (w : World) : (Instr.buildSlice 59 1 #[(0, .string (bstr x))]).run Tryz.prog w = .ok (.slice (some ⟨w.heap.size, 0, none⟩) 1 1) (w.alloc (.cells (strsV [x]).toArray 9)) := by go_simp; rfl
theorem slice_strs2 (x y : List UInt8) (w : World) : (Instr.buildSlice 59 2 #[(0, .string (bstr x)), (1, .string (bstr y))]).run Tryz.prog w = .ok (.slice (some ⟨w.heap.size, 0, none⟩) 2 2) (w.alloc (.cells (strsV [x, y]).toArray 9)) := by go_simp; rfl
theorem step_strs {w : World} {ops : Array Oper} {o : Oper} {a : Act} {K : Act → World → Prop} {Q : Exit → Act → World → Prop} {E : Prop} (dst : Option Tmp) (hdst : o.dst = dst) (hgd : Region.wanted o (yielded ops a.tmps) = true) (v : Value) (l : List (List UInt8))
    (hrun : (execOp a.eval o).run Tryz.prog w = .ok (.value v) (w.alloc (.cells (strsV l).toArray 9))) (hv : v = .slice (some ⟨w.heap.size, 0, none⟩) l.length l.length)
    (h : ∀ w', Sl w' (some ⟨w.heap.size, 0, none⟩) l.length (strsV l) → Below w.heap.size w w' → K (a.put dst (.slice (some ⟨w.heap.size, 0, none⟩) l.length l.length)) w') : if Region.wanted o (yielded ops a.tmps) = true then Oper.wp Tryz.prog o a w K Q else E := by
  subst hdst hv
  rw [if_pos hgd]
  unfold Oper.wp
  rw [hrun]
  refine h _ ?_ ((Below.refl _ w).alloc (Nat.le_refl _) _)
  have hr := Row.new w 9 (strsV l)
  exact ⟨Rd.row (ys := []) (by rw [List.append_nil]; exact hr), by rw [length_strsV]; exact Nat.le_refl _, fun h => by cases h⟩
theorem tag_fit (k : List UInt8) (hk : k.length = 32) : (byts k).length = 32 := by rw [length_byts]; exact hk
theorem two_rows19 {w w1 : World} {A B : List Value} {t u : TypeId} (h : (w.alloc (.cells A.toArray t)).alloc (.cells B.toArray u) = w1) : Row w1 w.heap.size t A ∧ Row w1 (w.heap.size + 1) u B ∧ Below w.heap.size w w1 := by
  subst h
  have h1 : Row (w.alloc (.cells A.toArray t)) w.heap.size t A := Row.new w _ _
  have hb1 : Below w.heap.size w (w.alloc (.cells A.toArray t)) := (Below.refl _ w).alloc (Nat.le_refl _) _
  have hb2 : Below (w.alloc (.cells A.toArray t)).heap.size (w.alloc (.cells A.toArray t)) ((w.alloc (.cells A.toArray t)).alloc (.cells B.toArray u)) := (Below.refl _ _).alloc (Nat.le_refl _) _
  have h2 : Row ((w.alloc (.cells A.toArray t)).alloc (.cells B.toArray u)) (w.alloc (.cells A.toArray t)).heap.size u B := Row.new _ _ _
  rw [World.size_alloc] at h2
  exact ⟨h1.later hb2 h1.lt, h2, hb1.trans (hb2.mono hb1.size)⟩
set_option maxHeartbeats 4000000 in
theorem rstart19_any (key : List UInt8) (hk : key.length = 32) (n : Nat) (hn : n < 18446744073709551616) (id : List UInt8) (hi : id.length ≤ 100000000) (w : World) :
    Calls Tryz.prog 22 #[.agg (byts key).toArray, .int .u64 (n : Int), .string (bstr id)] w fun e w' => e = .returned (.agg (byts (startT key n id)).toArray) ∧ Below w.heap.size w w' := by
  have hKl := tag_fit key hk
  have hkz := Lib.hid (show (Tryz.prog.info? 23).map (·.size) = some (byts key).length by rw [size_tag, hKl])
  obtain ⟨V, hV⟩ : ∃ V, V = byts (startT key n id) := ⟨_, rfl⟩
  have hVl : V.length = 32 := by rw [hV]; exact tag_fit _ (length_keyD _ _ _)
  have hone := Lib.hid (show ∀ v ∈ V, v.oneCell' = true by rw [hV]; exact byts_one _)
  have hszl := Lib.hid (show (Tryz.prog.info? 23).map (·.size) = some V.length by rw [size_tag, hVl])
  have hsz2 := Lib.hid (show (Tryz.prog.info? 23).map (·.size) = some V.toArray.size by rw [size_tag, List.size_toArray, hVl])
  have hfit := Lib.hid (show 0 + V.length ≤ (List.replicate 32 (Value.int .u8 0)).length by rw [hVl, List.length_replicate]; decide)
  have HVr := Lib.hid (show splice (List.replicate 32 (Value.int .u8 0)) 0 V = V by
    unfold splice
    rw [List.take_zero, List.nil_append, Nat.zero_add, hVl, List.drop_eq_nil_of_le (by simp), List.append_nil])
  have HV := Lib.hid hV
  clear hV hVl hKl
  go_enter Tryz.func22, Tryz.ntmps22
  go_upto_region 1 with fail
  generalize hw1 : World.alloc (World.alloc _ _) _ = w1
  obtain ⟨r1, r2, hb1⟩ := two_rows19 (B := List.replicate 32 (Value.int .u8 0)) hw1
  clear hw1
  refine wp_region_noPanic ?_
  refine wp_region_held_drew (S := fun w' => Row w' w.heap.size 23 (byts key)) (by kernel_rfl) (r1.later ((Below.refl _ _).drew) r1.lt) (fun hHeld => ?_)
  have hB : Below w1.heap.size w1 w1.drew := (Below.refl _ _).drew
  refine rt 0 7 hHeld ?_ (hy := by intro w hS; exact run_load_op 23 (.tmp 3) rfl _ 0 rfl (byts key) _ (row_range hS) Tryz.underlying23 rfl hkz.out)
  refine rt 1 8 hHeld ?_
  refine rt 4 11 hHeld ?_
  refine wpAnyH_ready (rs := [2]) (by kernel_rfl) (by simp) (AllReadyH.cons (o := _) rfl (fun K hK => ?_) AllReadyH.nil)
  go_simp
  refine (rnumber_any n hn _).mono ?_; rintro e ww12 ⟨v2, rfl, ho2, hqw12⟩; obtain ⟨A2, c2, rfl, -, s2⟩ := Sl.of_own ho2
  try go_wp2_with fail
  refine hK.out _ _ (hHeld.later hqw12 hHeld.lt) (fun hHeld => ?_)
  clear hK K
  try (first | (rw [put_some]; dsimp only [List.set]) | rw [put_none])
  have hB := below_step hB hqw12
  have hB2 : Below ww12.heap.size ww12 ww12 := Below.refl _ _
  refine wpAnyH_ready (rs := [3]) (by kernel_rfl) (by simp) (AllReadyH.cons (o := _) rfl (fun K hK => ?_) AllReadyH.nil)
  refine step_val (some 10) rfl (by rfl) (.string (bstr (eightL n))) (by have hcv := conv_bytes s2 _ rfl; go_simp) ?_
  refine hK.out _ _ hHeld (fun hHeld => ?_)
  clear hK K
  try (first | (rw [put_some]; dsimp only [List.set]) | rw [put_none])
  refine wpAnyH_ready (rs := [5]) (by kernel_rfl) (by simp) (AllReadyH.cons (o := _) rfl (fun K hK => ?_) AllReadyH.nil)
  refine step_strs (some 12) rfl (by rfl) _ [eightL n, id] (by have hss := slice_strs2 (eightL n) id ww12; go_simp; rfl) rfl ?_; intro ww15 s5 hqw15
  refine hK.out _ _ (hHeld.later hqw15 hHeld.lt) (fun hHeld => ?_)
  clear hK K
  try (first | (rw [put_some]; dsimp only [List.set]) | rw [put_none])
  have hB := below_step hB hqw15
  have hB2 := below_step hB2 hqw15
  have hB5 : Below ww15.heap.size ww15 ww15 := Below.refl _ _
  refine wpAnyH_ready (rs := [6]) (by kernel_rfl) (by simp) (AllReadyH.cons (o := _) rfl (fun K hK => ?_) AllReadyH.nil)
  go_simp
  refine (rkey_any key hk [109, 105, 110, 116] _ 2 2 [eightL n, id] _ s5 rfl (by show (4 + 1) + (((eightL n).length + 1) + ((id.length + 1) + 0)) ≤ _; rw [length_eightL]; omega)).mono ?_; rintro e ww16 ⟨rfl, hqw16⟩; rw [show keyD key [109, 105, 110, 116] [eightL n, id] = startT key n id from rfl, ← HV.out]
  try go_wp2_with fail
  refine hK.out _ _ (hHeld.later hqw16 hHeld.lt) (fun hHeld => ?_)
  clear hK K
  try (first | (rw [put_some]; dsimp only [List.set]) | rw [put_none])
  have hB := below_step hB hqw16
  have hB2 := below_step hB2 hqw16
  have hB5 := below_step hB5 hqw16
  have hB6 : Below ww16.heap.size ww16 ww16 := Below.refl _ _
  refine wpAnyH_ready (rs := [7]) (by kernel_rfl) (by simp) (AllReadyH.cons (o := _) rfl (fun K hK => ?_) AllReadyH.nil)
  refine step_store_row none rfl (by rfl) 23 (.tmp 6) (.tmp 13) rfl _ 0 23 _ V rfl rfl (r2.later hB r2.lt) hfit.out hszl.out hone.out ?_; intro wf rf hgf; have hBz := hB
  refine hK.out _ _ (hHeld.grown hgf (by omega)) (fun hHeld => ?_)
  clear hK K
  try (first | (rw [put_some]; dsimp only [List.set]) | rw [put_none])
  refine wpAnyH_done (by kernel_rfl) ?_ _
  refine NoPanic.normal ?_
  have r9 : Row wf (w.heap.size + 1) 23 V := by rw [HVr.out] at rf; exact rf
  have hb9 := (hb1.trans (hBz.mono hb1.size)).grown hgf (Nat.le_trans hb1.size hBz.size) (fun k h => by cases h; omega)
  have R9 := Lib.hid (show wf.heap[(w.heap.size + 1 : Nat)]? = some (.cells V.toArray 23 (0, 0)) from r9)
  clear r9 hgf rf hBz hHeld hb1
  go_wp2_with (with_reducible refine bodyPost_ret (results_cell_row rfl _ _ (w.heap.size + 1) 23 V.toArray (0, 0) (.array 32 5) rfl R9.out Tryz.underlying23 rfl hsz2.out) rfl ?_)
  exact ⟨by rw [HV.out], hb9⟩
set_option maxHeartbeats 4000000 in
theorem rnext_any (key : List UInt8) (hk : key.length = 32) (c : Cav) (hp : c.party < 18446744073709551616) (hc : (capB c).length ≤ 1000000) (w : World) :
    Calls Tryz.prog 13 #[.agg (byts key).toArray, .agg (cavV c).toArray] w fun e w' => e = .returned (.agg (byts (nextT key c)).toArray) ∧ Below w.heap.size w w' := by
  have hKl := tag_fit key hk
  have hkz := Lib.hid (show (Tryz.prog.info? 23).map (·.size) = some (byts key).length by rw [size_tag, hKl])
  obtain ⟨V, hV⟩ : ∃ V, V = byts (nextT key c) := ⟨_, rfl⟩
  have hVl : V.length = 32 := by rw [hV]; exact tag_fit _ (length_keyD _ _ _)
  have hone := Lib.hid (show ∀ v ∈ V, v.oneCell' = true by rw [hV]; exact byts_one _)
  have hszl := Lib.hid (show (Tryz.prog.info? 23).map (·.size) = some V.length by rw [size_tag, hVl])
  have hsz2 := Lib.hid (show (Tryz.prog.info? 23).map (·.size) = some V.toArray.size by rw [size_tag, List.size_toArray, hVl])
  have hfit := Lib.hid (show 0 + V.length ≤ (List.replicate 32 (Value.int .u8 0)).length by rw [hVl, List.length_replicate]; decide)
  have HVr := Lib.hid (show splice (List.replicate 32 (Value.int .u8 0)) 0 V = V by
    unfold splice
    rw [List.take_zero, List.nil_append, Nat.zero_add, hVl, List.drop_eq_nil_of_le (by simp), List.append_nil])
  have HV := Lib.hid hV
  clear hV hVl hKl
  go_enter Tryz.func13, Tryz.ntmps13
  go_upto_region 1 with fail
  generalize hw1 : World.alloc (World.alloc (World.alloc _ _) _) _ = w1
  obtain ⟨r1, r2, r3, hb1, -⟩ := rows3 (C := List.replicate 32 (Value.int .u8 0)) hw1
  clear hw1
  refine wp_region_noPanic ?_
  refine wp_region_held_drew (S := fun w' => Row w' w.heap.size 23 (byts key) ∧ Row w' (w.heap.size + 1) 29 (cavV c)) (by kernel_rfl) (⟨r1.later ((Below.refl _ _).drew) r1.lt, r2.later ((Below.refl _ _).drew) r2.lt⟩) (fun hHeld => ?_)
  have hB : Below w1.heap.size w1 w1.drew := (Below.refl _ _).drew
  refine rt 0 5 hHeld ?_ (hy := by intro w hS; exact run_load_op 23 (.tmp 2) rfl _ 0 rfl (byts key) _ (row_range hS.1) Tryz.underlying23 rfl hkz.out)
  refine rt 1 6 hHeld ?_ (hy := by intro w hS; exact run_load_op 29 (.tmp 3) rfl _ 0 rfl (cavV c) _ (row_range hS.2) Tryz.underlying29 rfl size_cav)
  refine wpAnyH_ready (rs := [2]) (by kernel_rfl) (by simp) (AllReadyH.cons (o := _) rfl (fun K hK => ?_) AllReadyH.nil)
  go_simp
  refine (rcav_any c hp _).mono ?_; rintro e ww12 ⟨A2, d2, rfl, s2, hqw12⟩
  try go_wp2_with fail
  refine hK.out _ _ ⟨hHeld.1.later hqw12 hHeld.1.lt, hHeld.2.later hqw12 hHeld.2.lt⟩ (fun hHeld => ?_)
  clear hK K
  try (first | (rw [put_some]; dsimp only [List.set]) | rw [put_none])
  have hB := below_step hB hqw12
  have hB2 : Below ww12.heap.size ww12 ww12 := Below.refl _ _
  refine wpAnyH_ready (rs := [3]) (by kernel_rfl) (by simp) (AllReadyH.cons (o := _) rfl (fun K hK => ?_) AllReadyH.nil)
  go_simp
  refine (rjoin_any A2 _ d2 (cavF c) _ s2 rfl (by show (capB c).length ≤ _; omega)).mono ?_; rintro e ww13 ⟨v3, rfl, ho3, hqw13⟩; obtain ⟨A3, c3, rfl, -, s3⟩ := Sl.of_own ho3
  try go_wp2_with fail
  refine hK.out _ _ ⟨hHeld.1.later hqw13 hHeld.1.lt, hHeld.2.later hqw13 hHeld.2.lt⟩ (fun hHeld => ?_)
  clear hK K
  try (first | (rw [put_some]; dsimp only [List.set]) | rw [put_none])
  have hB := below_step hB hqw13
  have hB2 := below_step hB2 hqw13
  have hB3 : Below ww13.heap.size ww13 ww13 := Below.refl _ _
  refine wpAnyH_ready (rs := [4]) (by kernel_rfl) (by simp) (AllReadyH.cons (o := _) rfl (fun K hK => ?_) AllReadyH.nil)
  refine step_val (some 9) rfl (by rfl) (.string (bstr (capB c))) (by have hcv := conv_bytes s3 _ rfl; unfold capB; go_simp) ?_
  refine hK.out _ _ hHeld (fun hHeld => ?_)
  clear hK K
  try (first | (rw [put_some]; dsimp only [List.set]) | rw [put_none])
  refine wpAnyH_ready (rs := [5]) (by kernel_rfl) (by simp) (AllReadyH.cons (o := _) rfl (fun K hK => ?_) AllReadyH.nil)
  refine step_strs (some 10) rfl (by rfl) _ [capB c] (by have hss := slice_strs1 (capB c) ww13; go_simp; rfl) rfl ?_; intro ww15 s5 hqw15
  refine hK.out _ _ ⟨hHeld.1.later hqw15 hHeld.1.lt, hHeld.2.later hqw15 hHeld.2.lt⟩ (fun hHeld => ?_)
  clear hK K
  try (first | (rw [put_some]; dsimp only [List.set]) | rw [put_none])
  have hB := below_step hB hqw15
  have hB2 := below_step hB2 hqw15
  have hB3 := below_step hB3 hqw15
  have hB5 : Below ww15.heap.size ww15 ww15 := Below.refl _ _
  refine wpAnyH_ready (rs := [6]) (by kernel_rfl) (by simp) (AllReadyH.cons (o := _) rfl (fun K hK => ?_) AllReadyH.nil)
  go_simp
  refine (rkey_any key hk [99, 97, 118, 101, 97, 116] _ 1 1 [capB c] _ s5 rfl (by show (6 + 1) + (((capB c).length + 1) + 0) ≤ _; omega)).mono ?_; rintro e ww16 ⟨rfl, hqw16⟩; rw [show keyD key [99, 97, 118, 101, 97, 116] [capB c] = nextT key c from rfl, ← HV.out]
  try go_wp2_with fail
  refine hK.out _ _ ⟨hHeld.1.later hqw16 hHeld.1.lt, hHeld.2.later hqw16 hHeld.2.lt⟩ (fun hHeld => ?_)
  clear hK K
  try (first | (rw [put_some]; dsimp only [List.set]) | rw [put_none])
  have hB := below_step hB hqw16
  have hB2 := below_step hB2 hqw16
  have hB3 := below_step hB3 hqw16
  have hB5 := below_step hB5 hqw16
  have hB6 : Below ww16.heap.size ww16 ww16 := Below.refl _ _
  refine wpAnyH_ready (rs := [7]) (by kernel_rfl) (by simp) (AllReadyH.cons (o := _) rfl (fun K hK => ?_) AllReadyH.nil)
  refine step_store_row none rfl (by rfl) 23 (.tmp 4) (.tmp 11) rfl _ 0 23 _ V rfl rfl (r3.later hB r3.lt) hfit.out hszl.out hone.out ?_; intro wf rf hgf; have hBz := hB
  refine hK.out _ _ ⟨hHeld.1.grown hgf (by omega), hHeld.2.grown hgf (by omega)⟩ (fun hHeld => ?_)
  clear hK K
  try (first | (rw [put_some]; dsimp only [List.set]) | rw [put_none])
  refine wpAnyH_done (by kernel_rfl) ?_ _
  refine NoPanic.normal ?_
  have r9 : Row wf (w.heap.size + 1 + 1) 23 V := by rw [HVr.out] at rf; exact rf
  have hb9 := (hb1.trans (hBz.mono hb1.size)).grown hgf (Nat.le_trans hb1.size hBz.size) (fun k h => by cases h; omega)
  have R9 := Lib.hid (show wf.heap[(w.heap.size + 1 + 1 : Nat)]? = some (.cells V.toArray 23 (0, 0)) from r9)
  clear r9 hgf rf hBz hHeld hb1
  go_wp2_with (with_reducible refine bodyPost_ret (results_cell_row rfl _ _ (w.heap.size + 1 + 1) 23 V.toArray (0, 0) (.array 32 5) rfl R9.out Tryz.underlying23 rfl hsz2.out) rfl ?_)
  exact ⟨by rw [HV.out], hb9⟩
end Go.Proofs.YtimdhdimhboboaaGreatDoor

/- WORDS ON MEMORY, for slices of things of k cells. No Go function is spoken of here. -/
namespace Go.Proofs.YtimdhdimhboboaaGreatDoor
set_option maxRecDepth 100000
open Go Go.RowKit

theorem ownk_grown {w w' : World} {base t k n g : Nat} {v : Value} {xs : List Value} (h : w.ownsRow base t k v n xs) (hg : w.grownBy w' (some g)) (hlt : g < base) : w'.ownsRow base t k v n xs := by
  refine ⟨h.1, ?_⟩
  rcases h.2 with hn | ⟨g', cap, cur, rfl, hbg, hcur, rest⟩
  · exact .inl hn
  · exact .inr ⟨g', cap, cur, rfl, hbg, (hg.block g' (Array.getElem?_eq_some_iff.1 hcur).1 (fun e => by have := Option.some.inj e; omega)).trans hcur, rest⟩
/-- Where what is the call's own lies. -/
theorem ownk_fresh {w : World} {base t k n c : Nat} {A : Option Addr} {xs : List Value} (h : w.ownsRow base t k (.slice A n c) n xs) : ∀ a, A = some a → base ≤ a.block := by
  intro a ha
  subst ha
  rcases h.2 with ⟨h1, _⟩ | ⟨g, cap, cur, hv, hbg, _⟩
  · cases h1
  · injection hv with e1
    injection e1 with e1
    subst e1
    exact hbg
end Go.Proofs.YtimdhdimhboboaaGreatDoor

/- LAYER 10: the document's bytes of a token. -/
namespace Go.Proofs.YtimdhdimhboboaaGreatDoor
set_option maxRecDepth 100000
open Go Go.RowKit

theorem tok_tag {w : World} {g : Nat} {t : Tok} {A : Option Addr} {c : Nat} (ht : t.Ok) (h : Row w g 27 (tokV t A c)) : Sl w (some ⟨g, 4, none⟩) 32 (byts t.tag) := by
  refine ⟨.inr ⟨g, 4, rfl, h.lt, fun i hi => ?_⟩, by rw [length_byts, ht.tag]; exact Nat.le_refl _, fun h => by cases h⟩
  rw [h.cell]
  unfold tokV
  rw [List.getElem?_append_right (by show 4 ≤ 4 + i; omega)]
  show (byts t.tag)[4 + i - 4]? = _
  rw [Nat.add_sub_cancel_left]
theorem cavF_len (c : Cav) : (cavF c).length ≤ 3 := by unfold cavF; split <;> simp
theorem fieldsL_len (n : Nat) : ∀ (fs : List Fd), (∀ f ∈ fs, f.2.length ≤ n) → (joinL fs).length ≤ fs.length * (n + 11)
  | [], _ => by simp [joinL]
  | f :: fs, h => by
    have h1 := fieldsL_len n fs (fun g hg => h g (List.mem_cons_of_mem _ hg))
    have h2 := h f List.mem_cons_self
    have h3 := length_fieldL f
    have h4 := length_varL f.2.length
    have e : joinL (f :: fs) = fieldL f ++ joinL fs := by unfold joinL; rw [List.flatMap_cons]
    rw [e, List.length_append, List.length_cons, Nat.succ_mul]; omega
end Go.Proofs.YtimdhdimhboboaaGreatDoor

/- LAYER 10: what a Decode's walk shares. -/
namespace Go.Proofs.YtimdhdimhboboaaGreatDoor
set_option maxRecDepth 100000
open Go Go.RowKit

theorem infoCav : (Tryz.prog.info? 29).map (fun i => (i.zero, i.size, i.bytes)) = some (some (.agg (cavV ⟨false, [], 0, [], []⟩).toArray), 5, 64) := by kernel_rfl
theorem info_cav : ∃ i, Tryz.prog.info? 29 = some i ∧ i.zero = some (.agg (cavV ⟨false, [], 0, [], []⟩).toArray) ∧ i.size = 5 ∧ i.bytes = 64 := by
  have h := infoCav
  cases hq : Tryz.prog.info? 29 with
  | none => rw [hq] at h; cases h
  | some i =>
    rw [hq] at h
    simp only [Option.map_some, Option.some.injEq, Prod.mk.injEq] at h
    exact ⟨i, rfl, h.1, h.2.1, h.2.2⟩
theorem Row.kept {w w' : World} {g t : Nat} {xs : List Value} {row : Option Nat} (h : Row w g t xs) (hg : w.grownBy w' row) (hne : ∀ k, row = some k → g ≠ k) : Row w' g t xs := by
  have hl := h.lt
  unfold Row at h ⊢
  rw [hg.block g hl (fun e => hne g e.symm rfl)]; exact h
section
variable {wL w : World} {g : Nat} {t : Tok} {A : Option Addr} {c : Nat}
end
theorem ztok : tokV zeroK none 0 = [Value.int .u64 0, .string { data := #[] }, .slice none 0 0, .bool false, .int .u8 0, .int .u8 0, .int .u8 0, .int .u8 0, .int .u8 0, .int .u8 0, .int .u8 0, .int .u8 0, .int .u8 0, .int .u8 0, .int .u8 0, .int .u8 0, .int .u8 0, .int .u8 0, .int .u8 0, .int .u8 0, .int .u8 0, .int .u8 0, .int .u8 0, .int .u8 0, .int .u8 0, .int .u8 0, .int .u8 0, .int .u8 0, .int .u8 0, .int .u8 0, .int .u8 0, .int .u8 0, .int .u8 0, .int .u8 0, .int .u8 0, .int .u8 0] := by kernel_rfl
end Go.Proofs.YtimdhdimhboboaaGreatDoor

/- LAYER 5: package tag's Text: two digits of 16 for each byte. -/
namespace Go.Proofs.YtimdhdimhboboaaGreatDoor
set_option maxRecDepth 100000
open Go Go.RowKit

/-- A number's digit of 16. -/
def hexD (n : Nat) : UInt8 := if n < 10 then UInt8.ofNat (48 + n) else UInt8.ofNat (87 + n)
end Go.Proofs.YtimdhdimhboboaaGreatDoor

/- LAYER 12: addresses, as lists. No Go function is spoken of here. -/
namespace Go.Proofs.YtimdhdimhboboaaGreatDoor
set_option maxRecDepth 100000
open Go Go.RowKit

/-- A number's digits: fuel, base, number. -/
def numF : Nat → Nat → Nat → List UInt8
  | 0, _, n => [hexD n]
  | k + 1, b, n => if n < b then [hexD n] else numF k b (n / b) ++ [hexD (n % b)]
def numL (b n : Nat) : List UInt8 := numF n b n
theorem numF_fuel (b : Nat) (hb : 2 ≤ b) : ∀ (k n : Nat), n ≤ k → numF k b n = numL b n := by
  intro k
  induction k using Nat.strongRecOn with
  | _ k ih =>
    intro n hk
    cases k with
    | zero => obtain rfl : n = 0 := by omega
              rfl
    | succ k =>
      unfold numL
      cases n with
      | zero => show (if 0 < b then [hexD 0] else _) = [hexD 0]; rw [if_pos (by omega)]
      | succ n =>
        rw [numF, numF]
        by_cases h : n + 1 < b
        · rw [if_pos h, if_pos h]
        · rw [if_neg h, if_neg h]
          have hd : (n + 1) / b ≤ n := by
            have : (n + 1) / b < n + 1 := Nat.div_lt_self (by omega) (by omega)
            omega
          rw [ih k (by omega) _ (by omega), ih n (by omega) _ hd]
theorem numL_small (b n : Nat) (h : n < b) : numL b n = [hexD n] := by
  unfold numL
  cases n with
  | zero => rfl
  | succ n => rw [numF, if_pos h]
theorem numL_great (b n : Nat) (hb : 2 ≤ b) (h : b ≤ n) : numL b n = numL b (n / b) ++ [hexD (n % b)] := by
  have hn : n = (n - 1) + 1 := by omega
  have hd : n / b < n := Nat.div_lt_self (by omega) (by omega)
  unfold numL
  rw [hn, numF, if_neg (by omega), ← hn, numF_fuel b hb (n - 1) (n / b) (by omega)]
  rfl
theorem numL_ne (b n : Nat) : numL b n ≠ [] := by
  unfold numL
  cases n with
  | zero => simp [numF]
  | succ n => rw [numF]; split <;> simp
theorem numL_pos (b n : Nat) : 0 < (numL b n).length := List.length_pos_iff.2 (numL_ne b n)
/-- How many digits a number has, at most. -/
theorem numL_len (b : Nat) (hb : 2 ≤ b) : ∀ (k n : Nat), n < b ^ (k + 1) → (numL b n).length ≤ k + 1 := by
  intro k
  induction k with
  | zero => intro n h; rw [numL_small b n (by simpa using h)]; simp
  | succ k ih =>
    intro n h
    by_cases hs : n < b
    · rw [numL_small b n hs]; simp
    · rw [numL_great b n hb (by omega), List.length_append]
      have : n / b < b ^ (k + 1) := Nat.div_lt_of_lt_mul (by rw [Nat.pow_succ] at h; rwa [Nat.mul_comm])
      have := ih _ this
      simp; omega
/-- How many of some numbers are 0, in a row, from the first. -/
def zerosL : List Nat → Nat
  | [] => 0
  | n :: l => if n = 0 then zerosL l + 1 else 0
theorem zerosL_le (l : List Nat) : zerosL l ≤ l.length := by
  induction l with
  | nil => exact Nat.le_refl _
  | cons n l ih => rw [zerosL]; split <;> simp <;> omega
/-- Numbers' digits, with colons between. -/
def joinN : List Nat → List UInt8
  | [] => []
  | [n] => numL 16 n
  | n :: m :: l => numL 16 n ++ 58 :: joinN (m :: l)
/-- An address. -/
structure Adr where
  v6 : Bool
  b : List UInt8
def Adr.Ok (a : Adr) : Prop := a.b.length = 16
def adrV (a : Adr) : List Value := .bool a.v6 :: byts a.b
theorem length_adrV {a : Adr} (h : a.Ok) : (adrV a).length = 17 := by unfold adrV; rw [List.length_cons, length_byts, h]
theorem adrV_one (a : Adr) : ∀ v ∈ adrV a, v.oneCell' = true := by
  intro v hv
  rcases List.mem_cons.1 hv with rfl | hv
  · rfl
  · obtain ⟨_, _, rfl⟩ := List.mem_map.1 hv; rfl
def checkA (a : Adr) : Bool := a.v6 || (a.b.drop 4).all (· == 0)
/-- The eight numbers of an address. -/
def numsA (a : Adr) : List Nat := (List.range 8).map fun i => (a.b.getD (2 * i) 0).toNat * 256 + (a.b.getD (2 * i + 1) 0).toNat
/-- Where the row of noughts lies that is written '::': the first of the longest. -/
def bestL (l : List Nat) : Nat := (List.range l.length).foldl (fun best i => if zerosL (l.drop i) > zerosL (l.drop best) then i else best) 0
def textN (l : List Nat) : List UInt8 :=
  let best := bestL l
  let n := zerosL (l.drop best)
  if n < 2 then joinN l else joinN (l.take best) ++ 58 :: 58 :: joinN (l.drop (best + n))
def textA (a : Adr) : List UInt8 :=
  if checkA a then
    if a.v6 then textN (numsA a)
    else numL 10 (a.b.getD 0 0).toNat ++ 46 :: numL 10 (a.b.getD 1 0).toNat ++ 46 :: numL 10 (a.b.getD 2 0).toNat ++ 46 :: numL 10 (a.b.getD 3 0).toNat
  else []
end Go.Proofs.YtimdhdimhboboaaGreatDoor

/- LAYER 12: the document's Text of an address of V6. -/
namespace Go.Proofs.YtimdhdimhboboaaGreatDoor
set_option maxRecDepth 100000
open Go Go.RowKit

def bestK (l : List Nat) (k : Nat) : Nat := (List.range k).foldl (fun best i => if zerosL (l.drop i) > zerosL (l.drop best) then i else best) 0
theorem bestK_succ (l : List Nat) (k : Nat) : bestK l (k + 1) = if zerosL (l.drop k) > zerosL (l.drop (bestK l k)) then k else bestK l k := by
  unfold bestK
  rw [List.range_succ, List.foldl_append]; rfl
theorem bestK_le (l : List Nat) (k : Nat) : bestK l k ≤ k := by
  induction k with
  | zero => exact Nat.le_refl _
  | succ k ih => rw [bestK_succ]; split <;> omega
end Go.Proofs.YtimdhdimhboboaaGreatDoor

/- A number's digits, read back: lists (layers 12, 13, 15, 16). No Go function is spoken of here. -/
namespace Go.Proofs.YtimdhdimhboboaaGreatDoor
set_option maxRecDepth 100000
open Go Go.RowKit

def digI (b : Nat) (c : UInt8) : Int := (List.range b).foldl (fun d j => if hexD j = c then (j : Int) else d) (-1)
theorem digI_succ (b : Nat) (c : UInt8) : digI (b + 1) c = if hexD b = c then (b : Int) else digI b c := by
  unfold digI
  rw [List.range_succ, List.foldl_append]; rfl
theorem digI_bd (b : Nat) (c : UInt8) : -1 ≤ digI b c ∧ digI b c < b := by
  induction b with
  | zero => exact ⟨by show (-1 : Int) ≤ -1; omega, by show (-1 : Int) < _; omega⟩
  | succ b ih => rw [digI_succ]; split <;> omega
theorem digI_hex (b : Nat) (c : UInt8) (h : 0 ≤ digI b c) : hexD (digI b c).toNat = c := by
  induction b with
  | zero => exact absurd h (by show ¬ (0 : Int) ≤ -1; omega)
  | succ b ih =>
    rw [digI_succ] at h ⊢
    split
    · rename_i e; simpa using e
    · rename_i e; rw [if_neg e] at h; exact ih h
def foldV (b : Nat) : Nat → List UInt8 → Option Nat
  | n, [] => some n
  | n, c :: s => if digI b c < 0 then none else foldV b (n * b + (digI b c).toNat) s
def optI : Option Nat → Int
  | none => -1
  | some n => n
def valueL (b most : Nat) (s : List UInt8) : Option Nat :=
  if s.length = 0 ∨ most < s.length then none
  else match foldV b 0 s with
    | none => none
    | some n => if numL b n = s then some n else none
theorem hexD_inj : ∀ i j : Nat, i < 16 → j < 16 → hexD i = hexD j → i = j := by
  have h : ∀ i j : Fin 16, hexD i.1 = hexD j.1 → i = j := by decide
  intro i j hi hj he
  exact congrArg Fin.val (h ⟨i, hi⟩ ⟨j, hj⟩ he)
theorem hexD_sign : ∀ i : Nat, i < 16 → hexD i ≠ 46 ∧ hexD i ≠ 58 := by
  have h : ∀ i : Fin 16, hexD i.1 ≠ 46 ∧ hexD i.1 ≠ 58 := by decide
  intro i hi
  exact h ⟨i, hi⟩
theorem digI_hexD (b d : Nat) (hb : b ≤ 16) (hd : d < b) : digI b (hexD d) = d := by
  induction b with
  | zero => omega
  | succ b ih =>
    rw [digI_succ]
    by_cases h : d = b
    · rw [if_pos (by rw [h]), h]
    · rw [if_neg (fun e => h (hexD_inj d b (by omega) (by omega) e.symm)), ih (by omega) (by omega)]
theorem foldV_append (b : Nat) (s t : List UInt8) : ∀ n, foldV b n (s ++ t) = (foldV b n s).bind fun m => foldV b m t := by
  induction s with
  | nil => intro n; rfl
  | cons c s ih =>
    intro n
    rw [List.cons_append, foldV, foldV]
    split
    · rfl
    · exact ih _
theorem foldV_one (b n d : Nat) (hb : b ≤ 16) (hd : d < b) : foldV b n [hexD d] = some (n * b + d) := by
  rw [foldV, digI_hexD b d hb hd, if_neg (by omega)]; rfl
theorem foldV_num (b : Nat) (h2 : 2 ≤ b) (hb : b ≤ 16) (n : Nat) : foldV b 0 (numL b n) = some n := by
  induction n using Nat.strongRecOn with
  | _ n ih =>
    by_cases h : n < b
    · rw [numL_small b n h, foldV_one b 0 n hb h]; simp
    · rw [numL_great b n h2 (by omega), foldV_append, ih (n / b) (Nat.div_lt_self (by omega) (by omega))]
      show foldV b (n / b) [hexD (n % b)] = _
      rw [foldV_one b _ _ hb (Nat.mod_lt _ (by omega)), Nat.mul_comm, Nat.div_add_mod]
theorem valueL_iff (b most : Nat) (h2 : 2 ≤ b) (hb : b ≤ 16) (p : List UInt8) (n : Nat) : valueL b most p = some n ↔ numL b n = p ∧ p.length ≤ most := by
  unfold valueL
  constructor
  · intro h
    by_cases hbad : p.length = 0 ∨ most < p.length
    · rw [if_pos hbad] at h; cases h
    · rw [if_neg hbad] at h
      cases hf : foldV b 0 p with
      | none => rw [hf] at h; cases h
      | some m =>
        rw [hf] at h
        by_cases he : numL b m = p
        · simp only [if_pos he] at h
          cases h
          exact ⟨he, by omega⟩
        · simp only [if_neg he] at h; cases h
  · rintro ⟨rfl, hl⟩
    have hp := numL_pos b n
    rw [if_neg (by omega), foldV_num b h2 hb]
    simp
theorem numL_sign (b n : Nat) (h2 : 2 ≤ b) (hb : b ≤ 16) : ∀ c ∈ numL b n, c ≠ 46 ∧ c ≠ 58 := by
  induction n using Nat.strongRecOn with
  | _ n ih =>
    by_cases h : n < b
    · rw [numL_small b n h]
      intro c hc
      rw [List.mem_singleton.1 hc]
      exact hexD_sign n (by omega)
    · rw [numL_great b n h2 (by omega)]
      intro c hc
      rcases List.mem_append.1 hc with h1 | h1
      · exact ih (n / b) (Nat.div_lt_self (by omega) (by omega)) c h1
      · rw [List.mem_singleton.1 h1]
        exact hexD_sign _ (Nat.lt_of_lt_of_le (Nat.mod_lt _ (by omega)) hb)
theorem numL_inj (b m n : Nat) (h2 : 2 ≤ b) (hb : b ≤ 16) (h : numL b m = numL b n) : m = n := by
  have h1 := foldV_num b h2 hb m
  rw [h, foldV_num b h2 hb n] at h1
  exact (Option.some.inj h1).symm
end Go.Proofs.YtimdhdimhboboaaGreatDoor

/- A text's pieces between a sign, as lists (layers 12, 14). No Go function is spoken of here. -/
namespace Go.Proofs.YtimdhdimhboboaaGreatDoor
set_option maxRecDepth 100000
open Go Go.RowKit

def splitL (x : UInt8) : List UInt8 → List (List UInt8)
  | [] => [[]]
  | c :: s => if c = x then [] :: splitL x s else match splitL x s with
    | [] => [[c]]
    | p :: ps => (c :: p) :: ps
theorem splitL_ne (x : UInt8) (s : List UInt8) : splitL x s ≠ [] := by
  cases s with
  | nil => simp [splitL]
  | cons c s =>
    rw [splitL]
    split
    · simp
    · split <;> simp
/-- The piece up to the first sign. -/
theorem splitL_hit (x : UInt8) (p t : List UInt8) (h : ∀ c ∈ p, c ≠ x) : splitL x (p ++ x :: t) = p :: splitL x t := by
  induction p with
  | nil => simp [splitL]
  | cons c p ih =>
    rw [List.cons_append, splitL, if_neg (h c (List.mem_cons_self ..)), ih (fun q hq => h q (List.mem_cons_of_mem _ hq))]
theorem splitL_end (x : UInt8) (p : List UInt8) (h : ∀ c ∈ p, c ≠ x) : splitL x p = [p] := by
  induction p with
  | nil => rfl
  | cons c p ih => rw [splitL, if_neg (h c (List.mem_cons_self ..)), ih (fun q hq => h q (List.mem_cons_of_mem _ hq))]
theorem extract_bstr12 (l : List UInt8) (i j : Nat) : (bstr l).extract i j = bstr ((l.drop i).take (j - i)) := ByteArray.extract_mk l i j
theorem splitL_len (x : UInt8) (s : List UInt8) : (splitL x s).length ≤ s.length + 1 := by
  induction s with
  | nil => exact Nat.le_refl _
  | cons c s ih =>
    rw [splitL]
    split
    · simp; exact ih
    · split
      · simp
      · rename_i h; rw [h] at ih; simp at ih ⊢; omega
/-- Pieces, with a sign between. -/
def glueL (x : UInt8) : List (List UInt8) → List UInt8
  | [] => []
  | [p] => p
  | p :: q :: ps => p ++ x :: glueL x (q :: ps)
theorem glueL_cons (x : UInt8) (p : List UInt8) (ps : List (List UInt8)) (h : ps ≠ []) : glueL x (p :: ps) = p ++ x :: glueL x ps := by
  cases ps with
  | nil => exact absurd rfl h
  | cons q ps => rfl
theorem splitL_glue (x : UInt8) (ps : List (List UInt8)) (h : ps ≠ []) (hx : ∀ p ∈ ps, ∀ c ∈ p, c ≠ x) : splitL x (glueL x ps) = ps := by
  induction ps with
  | nil => exact absurd rfl h
  | cons p ps ih =>
    by_cases he : ps = []
    · subst he
      exact splitL_end x p (hx p (List.mem_cons_self ..))
    · rw [glueL_cons x p ps he, splitL_hit x p _ (hx p (List.mem_cons_self ..)), ih he (fun q hq => hx q (List.mem_cons_of_mem _ hq))]
theorem glueL_split (x : UInt8) (s : List UInt8) : glueL x (splitL x s) = s := by
  induction s with
  | nil => rfl
  | cons c s ih =>
    rw [splitL]
    split
    · rename_i h
      rw [glueL_cons x [] _ (splitL_ne x s), ih, h]; rfl
    · cases hsp : splitL x s with
      | nil => exact absurd hsp (splitL_ne x s)
      | cons p ps =>
        rw [hsp] at ih
        show glueL x ((c :: p) :: ps) = _
        by_cases he : ps = []
        · subst he
          show c :: p = _
          rw [show p = s from ih]
        · rw [glueL_cons x _ ps he]
          rw [glueL_cons x _ ps he] at ih
          rw [List.cons_append, ih]
theorem mem_glue (x : UInt8) (ps : List (List UInt8)) (c : UInt8) (h : c ∈ glueL x ps) : c = x ∨ ∃ p ∈ ps, c ∈ p := by
  induction ps with
  | nil => cases h
  | cons p ps ih =>
    by_cases he : ps = []
    · subst he
      exact .inr ⟨p, List.mem_cons_self .., h⟩
    · rw [glueL_cons x p ps he] at h
      rcases List.mem_append.1 h with h | h
      · exact .inr ⟨p, List.mem_cons_self .., h⟩
      · rcases List.mem_cons.1 h with h | h
        · exact .inl h
        · rcases ih h with h | ⟨q, hq, hc⟩
          · exact .inl h
          · exact .inr ⟨q, List.mem_cons_of_mem _ hq, hc⟩
theorem splitL_piece (x : UInt8) (s : List UInt8) : ∀ p ∈ splitL x s, p.length ≤ s.length := by
  induction s with
  | nil => intro p hp; rw [splitL] at hp; rw [List.mem_singleton.1 hp]; exact Nat.le_refl _
  | cons c s ih =>
    intro p hp
    rw [splitL] at hp
    split at hp
    · rcases List.mem_cons.1 hp with rfl | hp
      · simp
      · have := ih p hp; rw [List.length_cons]; omega
    · split at hp
      · rw [List.mem_singleton.1 hp]; simp
      · rename_i q qs hq
        rcases List.mem_cons.1 hp with rfl | hp
        · have := ih q (by rw [hq]; exact List.mem_cons_self ..); rw [List.length_cons, List.length_cons]; omega
        · have := ih p (by rw [hq]; exact List.mem_cons_of_mem _ hp); rw [List.length_cons]; omega
end Go.Proofs.YtimdhdimhboboaaGreatDoor

/- LAYER 12: the document's numbers: those of a text's pieces. -/
namespace Go.Proofs.YtimdhdimhboboaaGreatDoor
set_option maxRecDepth 100000
open Go Go.RowKit

def goL (b dg most : Nat) : List (List UInt8) → Option (List Nat)
  | [] => some []
  | p :: ps => match valueL b dg p with
    | none => none
    | some n => if most < n then none else (goL b dg most ps).map (n :: ·)
def numbersL (b dg most : Nat) (x : UInt8) (s : List UInt8) : Option (List Nat) := if s = [] then some [] else goL b dg most (splitL x s)
end Go.Proofs.YtimdhdimhboboaaGreatDoor

/- LAYER 12: the document's six: eight numbers as an address. -/
namespace Go.Proofs.YtimdhdimhboboaaGreatDoor
set_option maxRecDepth 100000
open Go Go.RowKit

def bytes6 (l : List Nat) : List UInt8 := l.flatMap fun n => [UInt8.ofNat (n / 256), UInt8.ofNat (n % 256)]
theorem length_bytes6 (l : List Nat) : (bytes6 l).length = 2 * l.length := by
  unfold bytes6
  induction l with
  | nil => rfl
  | cons x t ih => rw [List.flatMap_cons, List.length_append, ih]; simp; omega
def sixA (l : List Nat) : Adr := ⟨true, bytes6 l⟩
def zeroA : Adr := ⟨false, List.replicate 16 0⟩
theorem zeroA_ok : zeroA.Ok := rfl
end Go.Proofs.YtimdhdimhboboaaGreatDoor

/- LAYER 12: lists: a number's digits read back; pieces joined and split. No Go function is spoken of here. -/
namespace Go.Proofs.YtimdhdimhboboaaGreatDoor
set_option maxRecDepth 100000
open Go Go.RowKit

theorem joinN_glue (l : List Nat) : joinN l = glueL 58 (l.map (numL 16)) := by
  induction l with
  | nil => rfl
  | cons n l ih =>
    cases l with
    | nil => rfl
    | cons m l =>
      show numL 16 n ++ 58 :: joinN (m :: l) = _
      rw [ih]; rfl
theorem goL_iff (b dg most : Nat) (h2 : 2 ≤ b) (hb : b ≤ 16) (ps : List (List UInt8)) (l : List Nat) :
    goL b dg most ps = some l ↔ l.map (numL b) = ps ∧ ∀ n ∈ l, n ≤ most ∧ (numL b n).length ≤ dg := by
  induction ps generalizing l with
  | nil =>
    rw [goL]
    constructor
    · intro h; cases h; exact ⟨rfl, by simp⟩
    · rintro ⟨h, _⟩; rw [List.map_eq_nil_iff.1 h]
  | cons p ps ih =>
    rw [goL]
    constructor
    · intro h
      cases hv : valueL b dg p with
      | none => rw [hv] at h; cases h
      | some n =>
        rw [hv] at h
        obtain ⟨h1, h3⟩ := (valueL_iff b dg h2 hb p n).1 hv
        by_cases hm : most < n
        · simp only [if_pos hm] at h; cases h
        · simp only [if_neg hm] at h
          obtain ⟨t, ht, rfl⟩ := Option.map_eq_some_iff.1 h
          obtain ⟨h4, h5⟩ := (ih t).1 ht
          refine ⟨by rw [List.map_cons, h1, h4], ?_⟩
          intro q hq
          rcases List.mem_cons.1 hq with rfl | hq
          · exact ⟨by omega, by rw [h1]; exact h3⟩
          · exact h5 q hq
    · rintro ⟨h, hall⟩
      cases l with
      | nil => simp at h
      | cons n t =>
        rw [List.map_cons, List.cons.injEq] at h
        have hn := hall n (List.mem_cons_self ..)
        rw [(valueL_iff b dg h2 hb p n).2 ⟨h.1, by rw [← h.1]; exact hn.2⟩]
        simp only [if_neg (show ¬ most < n by omega)]
        rw [(ih t).2 ⟨h.2, fun q hq => hall q (List.mem_cons_of_mem _ hq)⟩]; rfl
/-- What a text's numbers are: the text is those numbers' digits, with the sign between. -/
theorem numbersL_iff (b dg most : Nat) (x : UInt8) (h2 : 2 ≤ b) (hb : b ≤ 16) (hx : x = 46 ∨ x = 58) (s : List UInt8) (l : List Nat) :
    numbersL b dg most x s = some l ↔ s = glueL x (l.map (numL b)) ∧ ∀ n ∈ l, n ≤ most ∧ (numL b n).length ≤ dg := by
  unfold numbersL
  by_cases h0 : s = []
  · rw [if_pos h0, h0]
    constructor
    · intro h; cases h; exact ⟨rfl, by simp⟩
    · rintro ⟨h, _⟩
      cases l with
      | nil => rfl
      | cons n t =>
        have hp := numL_ne b n
        cases t with
        | nil => exact absurd h.symm hp
        | cons m t =>
          have := congrArg List.length h
          simp [glueL] at this
  · rw [if_neg h0, goL_iff b dg most h2 hb]
    constructor
    · rintro ⟨h, hall⟩
      exact ⟨by rw [h, glueL_split], hall⟩
    · rintro ⟨h, hall⟩
      refine ⟨?_, hall⟩
      have hl : l ≠ [] := by
        rintro rfl
        exact h0 h
      rw [h, splitL_glue x _ (by simpa using hl)]
      intro p hp c hc
      obtain ⟨n, _, rfl⟩ := List.mem_map.1 hp
      have := numL_sign b n h2 hb c hc
      rcases hx with rfl | rfl
      · exact this.1
      · exact this.2
end Go.Proofs.YtimdhdimhboboaaGreatDoor

/- LAYER 12: lists: what a text's address is. No Go function is spoken of here. -/
namespace Go.Proofs.YtimdhdimhboboaaGreatDoor
set_option maxRecDepth 100000
open Go Go.RowKit

def findC : List UInt8 → Option Nat
  | [] => none
  | c :: s => match s with
    | [] => none
    | d :: _ => if c = 58 ∧ d = 58 then some 0 else (findC s).map (· + 1)
def fourA (l : List Nat) : Adr := ⟨false, l.map UInt8.ofNat ++ List.replicate 12 0⟩
def padL6 (f b : List Nat) : List Nat := f ++ (List.replicate (8 - (f.length + b.length)) 0 ++ b)
def parse6 (s : List UInt8) : Option Adr :=
  match findC s with
  | none => match numbersL 16 4 65535 58 s with
    | none => none
    | some l => if l.length = 8 ∧ textA (sixA l) = s then some (sixA l) else none
  | some k => match numbersL 16 4 65535 58 (s.take k), numbersL 16 4 65535 58 (s.drop (k + 2)) with
    | some f, some b => if f.length + b.length ≤ 7 ∧ textA (sixA (padL6 f b)) = s then some (sixA (padL6 f b)) else none
    | _, _ => none
def parseL (s : List UInt8) : Option Adr :=
  match numbersL 10 3 255 46 s with
  | some l => if l.length = 4 then some (fourA l) else parse6 s
  | none => parse6 s
theorem findC_cons (c d : UInt8) (s : List UInt8) (h : ¬ (c = 58 ∧ d = 58)) : findC (c :: d :: s) = (findC (d :: s)).map (· + 1) := by
  show (if c = 58 ∧ d = 58 then some 0 else _) = _
  rw [if_neg h]
theorem findC_piece (p t : List UInt8) (h : ∀ c ∈ p, c ≠ 58) : findC (p ++ t) = (findC t).map (· + p.length) := by
  induction p with
  | nil => rw [List.nil_append]; cases findC t <;> rfl
  | cons c p ih =>
    have ih := ih (fun q hq => h q (List.mem_cons_of_mem _ hq))
    have hc := h c (List.mem_cons_self ..)
    rw [List.cons_append]
    cases hpt : p ++ t with
    | nil =>
      obtain ⟨rfl, rfl⟩ := List.append_eq_nil_iff.1 hpt
      rfl
    | cons d u =>
      rw [findC_cons c d u (fun hh => hc hh.1), ← hpt, ih]
      cases findC t <;> simp; omega
theorem findC_glue (ps : List (List UInt8)) (t : List UInt8) (h : ∀ p ∈ ps, p ≠ [] ∧ ∀ c ∈ p, c ≠ 58) : findC (glueL 58 ps ++ t) = (findC t).map (· + (glueL 58 ps).length) := by
  induction ps with
  | nil => show findC t = _; cases findC t <;> simp [glueL]
  | cons p ps ih =>
    have ih := ih (fun q hq => h q (List.mem_cons_of_mem _ hq))
    by_cases he : ps = []
    · subst he
      exact findC_piece p t (h p (List.mem_cons_self ..)).2
    · rw [glueL_cons 58 p ps he, List.append_assoc, findC_piece p _ (h p (List.mem_cons_self ..)).2, List.cons_append]
      have hd : ∃ d u, glueL 58 ps = d :: u ∧ d ≠ 58 := by
        cases ps with
        | nil => exact absurd rfl he
        | cons q qs =>
          have hq := h q (List.mem_cons_of_mem _ (List.mem_cons_self ..))
          cases q with
          | nil => exact absurd rfl hq.1
          | cons d q =>
            have hd := hq.2 d (List.mem_cons_self ..)
            cases qs with
            | nil => exact ⟨d, q, rfl, hd⟩
            | cons r qs => exact ⟨d, _, rfl, hd⟩
      obtain ⟨d, u, hdu, hd⟩ := hd
      rw [hdu, List.cons_append, findC_cons 58 d _ (fun hh => hd hh.2), ← List.cons_append, ← hdu, ih]
      cases findC t <;> simp; omega
theorem pieces_ok (l : List Nat) : ∀ p ∈ l.map (numL 16), p ≠ [] ∧ ∀ c ∈ p, c ≠ 58 := by
  intro p hp
  obtain ⟨n, _, rfl⟩ := List.mem_map.1 hp
  exact ⟨numL_ne 16 n, fun c hc => (numL_sign 16 n (by omega) (by omega) c hc).2⟩
theorem joinN_no46 (l : List Nat) : (46 : UInt8) ∉ joinN l := by
  rw [joinN_glue]
  intro h
  rcases mem_glue 58 _ _ h with h | ⟨p, hp, hc⟩
  · cases h
  · obtain ⟨n, _, rfl⟩ := List.mem_map.1 hp
    exact (numL_sign 16 n (by omega) (by omega) 46 hc).1 rfl
theorem textN_no46 (l : List Nat) : (46 : UInt8) ∉ textN l := by
  unfold textN
  simp only []
  split
  · exact joinN_no46 l
  · intro h
    rcases List.mem_append.1 h with h | h
    · exact joinN_no46 _ h
    · rcases List.mem_cons.1 h with h | h
      · cases h
      · rcases List.mem_cons.1 h with h | h
        · cases h
        · exact joinN_no46 _ h
theorem numL16_len (n : Nat) (h : n ≤ 65535) : (numL 16 n).length ≤ 4 := numL_len 16 (by omega) 3 n (by omega)
theorem numL10_len (n : Nat) (h : n ≤ 255) : (numL 10 n).length ≤ 3 := numL_len 10 (by omega) 2 n (by omega)
theorem zerosL_split (l : List Nat) : l = List.replicate (zerosL l) 0 ++ l.drop (zerosL l) := by
  induction l with
  | nil => rfl
  | cons n l ih =>
    rw [zerosL]
    by_cases h : n = 0
    · rw [if_pos h, List.replicate_succ, List.cons_append, List.drop_succ_cons, ← ih, h]
    · rw [if_neg h]; rfl
theorem sixA_ok (l : List Nat) (h : l.length = 8) : (sixA l).Ok := by show (bytes6 l).length = 16; rw [length_bytes6, h]
theorem checkA_six (l : List Nat) : checkA (sixA l) = true := rfl
theorem padL_len (f b : List Nat) (h : f.length + b.length ≤ 7) : (padL6 f b).length = 8 := by unfold padL6; simp; omega
theorem textA_four (l : List Nat) (h4 : l.length = 4) (hm : ∀ n ∈ l, n ≤ 255) : (fourA l).Ok ∧ checkA (fourA l) = true ∧ textA (fourA l) = glueL 46 (l.map (numL 10)) := by
  match l, h4, hm with
  | [a, b, c, d], _, hm =>
    have ha := hm a (by simp)
    have hb := hm b (by simp)
    have hc := hm c (by simp)
    have hd := hm d (by simp)
    have e : ∀ n, n ≤ 255 → (UInt8.ofNat n).toNat = n := fun n hn => by rw [UInt8.toNat_ofNat']; omega
    refine ⟨rfl, rfl, ?_⟩
    show numL 10 (UInt8.ofNat a).toNat ++ 46 :: numL 10 (UInt8.ofNat b).toNat ++ 46 :: numL 10 (UInt8.ofNat c).toNat ++ 46 :: numL 10 (UInt8.ofNat d).toNat = _
    rw [e a ha, e b hb, e c hc, e d hd]
    show _ = numL 10 a ++ 46 :: (numL 10 b ++ 46 :: (numL 10 c ++ 46 :: numL 10 d))
    simp
theorem parse6_sound (s : List UInt8) (a : Adr) (h : parse6 s = some a) : a.Ok ∧ checkA a = true ∧ textA a = s := by
  unfold parse6 at h
  cases hf : findC s with
  | none =>
    rw [hf] at h
    cases hn : numbersL 16 4 65535 58 s with
    | none => simp only [hn] at h; cases h
    | some l =>
      simp only [hn] at h
      by_cases hc : l.length = 8 ∧ textA (sixA l) = s
      · rw [if_pos hc] at h
        cases h
        exact ⟨sixA_ok l hc.1, rfl, hc.2⟩
      · rw [if_neg hc] at h; cases h
  | some k =>
    rw [hf] at h
    cases hn : numbersL 16 4 65535 58 (s.take k) with
    | none => simp only [hn] at h; cases h
    | some f =>
      cases hb : numbersL 16 4 65535 58 (s.drop (k + 2)) with
      | none => simp only [hn, hb] at h; cases h
      | some b =>
        simp only [hn, hb] at h
        by_cases hc : f.length + b.length ≤ 7 ∧ textA (sixA (padL6 f b)) = s
        · rw [if_pos hc] at h
          cases h
          exact ⟨sixA_ok _ (padL_len f b hc.1), rfl, hc.2⟩
        · rw [if_neg hc] at h; cases h
theorem parseL_sound (s : List UInt8) (a : Adr) (h : parseL s = some a) : a.Ok ∧ checkA a = true ∧ textA a = s := by
  unfold parseL at h
  cases hn : numbersL 10 3 255 46 s with
  | none => rw [hn] at h; exact parse6_sound s a h
  | some l =>
    simp only [hn] at h
    by_cases h4 : l.length = 4
    · rw [if_pos h4] at h
      cases h
      obtain ⟨hs, hall⟩ := (numbersL_iff 10 3 255 46 (by omega) (by omega) (.inl rfl) s l).1 hn
      obtain ⟨h1, h2, h3⟩ := textA_four l h4 (fun n hq => (hall n hq).1)
      exact ⟨h1, h2, by rw [h3, ← hs]⟩
    · rw [if_neg h4] at h; exact parse6_sound s a h
end Go.Proofs.YtimdhdimhboboaaGreatDoor
