/- Texts of this claim, one behind the other. -/
import Derived.Test.YtnkkgclmmaakgaaDoorRaah
import Derived.Test.YtnkkgclmmaakgaaDoorRaag
import Derived.Test.YtnkkgclmmaakgaaDoorRaab
/- LAYER 21: bindAlive. -/
namespace Go.Proofs.YtnkkgclmmaakgaaDoor
set_option maxRecDepth 100000
open Go Go.RowKit

def tagA (x : UInt8) : List UInt8 := x :: List.replicate 31 0
def dA : Tok := ⟨0, [], [], false, tagA 2⟩
theorem dA_ok : dA.Ok := ⟨by decide, (fun _ h => by cases h), rfl⟩
theorem bind_differ : decide (bindG (tagA 1) (tagA 2) = bindG (tagA 3) (tagA 2)) = false := by decide +kernel
theorem build_tag1 (w : World) : (Instr.build 23 #[(0, .int .u8 1)]).run Tryd.prog w = .ok (.agg (byts (tagA 1)).toArray) w := by go_simp; rfl
theorem build_tag2 (w : World) : (Instr.build 23 #[(0, .int .u8 2)]).run Tryd.prog w = .ok (.agg (byts (tagA 2)).toArray) w := by go_simp; rfl
theorem lit_tag3 : (byts (tagA 3)).toArray = (#[.int .u8 3, .int .u8 0, .int .u8 0, .int .u8 0, .int .u8 0, .int .u8 0, .int .u8 0, .int .u8 0, .int .u8 0, .int .u8 0, .int .u8 0, .int .u8 0, .int .u8 0, .int .u8 0, .int .u8 0, .int .u8 0, .int .u8 0, .int .u8 0, .int .u8 0, .int .u8 0, .int .u8 0, .int .u8 0, .int .u8 0, .int .u8 0, .int .u8 0, .int .u8 0, .int .u8 0, .int .u8 0, .int .u8 0, .int .u8 0, .int .u8 0, .int .u8 0] : Array Value) := rfl
theorem build_dA (w : World) : (Instr.build 27 #[(4, .agg (byts (tagA 2)).toArray)]).run Tryd.prog w = .ok (.agg (tokV dA none 0).toArray) w := by go_simp; rfl
theorem alloc2_old (w : World) (a b : Array Value) (t u : TypeId) : ((w.alloc (.cells a t)).alloc (.cells b u)).heap[w.heap.size]? = some (.cells a t (0, 0)) := by
  have h := (two_rows19 (w := w) (A := a.toList) (B := b.toList) (t := t) (u := u) rfl).1
  unfold Row at h; simpa using h
theorem fits_alive : fitsT (tagA 1) (tagA 2) (boundT (tagA 1) dA) = true := by
  exact (if_pos (show (boundT (tagA 1) dA).bound = true from rfl)).trans (decide_eq_true rfl)
theorem fits_alive3 : fitsT (tagA 3) (tagA 2) (boundT (tagA 1) dA) = false := by
  exact (if_pos (show (boundT (tagA 1) dA).bound = true from rfl)).trans bind_differ
set_option maxHeartbeats 8000000 in
theorem balive21_any (w : World) (hT : Tabs w) : Calls Tryd.prog 6 #[] w fun e w' => e = .returned (.bool true) ∧ Below w.heap.size w w' := by
  obtain ⟨R1, hR1⟩ : ∃ R, R = byts (tagA 1) := ⟨_, rfl⟩
  obtain ⟨R2, hR2⟩ : ∃ R, R = byts (tagA 2) := ⟨_, rfl⟩
  obtain ⟨D, hD⟩ : ∃ D, D = tokV dA none 0 := ⟨_, rfl⟩
  have h1l : R1.length = 32 := by rw [hR1]; rfl
  have h2l : R2.length = 32 := by rw [hR2]; rfl
  have hDl : D.length = 36 := by rw [hD]; exact length_tokV dA_ok none 0
  have hz1 := Lib.hid (show (Tryd.prog.info? 23).map (·.size) = some R1.toArray.size by rw [List.size_toArray, h1l]; exact size_tag)
  have hz2 := Lib.hid (show (Tryd.prog.info? 23).map (·.size) = some R2.length by rw [h2l]; exact size_tag)
  have hy1 := Lib.hid (show (Tryd.prog.info? 23).map (·.size) = some R1.length by rw [h1l]; exact size_tag)
  have hzD := Lib.hid (show (Tryd.prog.info? 27).map (·.size) = some D.toArray.size by rw [List.size_toArray, hDl]; exact size_tok)
  have h32 := Lib.hid (show 32 = R1.toArray.size by rw [List.size_toArray, h1l])
  have h36 := Lib.hid (show 36 = D.toArray.size by rw [List.size_toArray, hDl])
  have ho1 := Lib.hid (show R1.toArray.all (·.oneCell') = true by rw [hR1]; exact all_one (byts_one _))
  have hoD := Lib.hid (show D.toArray.all (·.oneCell') = true by rw [hD, List.all_toArray, List.all_eq_true]; exact tokV_one _ _ _)
  have hb1 := Lib.hid (show ∀ w, (Instr.build 23 #[(0, .int .u8 1)]).run Tryd.prog w = .ok (.agg R1.toArray) w by rw [hR1]; exact build_tag1)
  have hb2 := Lib.hid (show ∀ w, (Instr.build 23 #[(0, .int .u8 2)]).run Tryd.prog w = .ok (.agg R2.toArray) w by rw [hR2]; exact build_tag2)
  have hbD := Lib.hid (show ∀ w, (Instr.build 27 #[(4, .agg R2.toArray)]).run Tryd.prog w = .ok (.agg D.toArray) w by rw [hR2, hD]; exact build_dA)
  have hUo : (boundT (tagA 1) dA).Ok := boundT_ok _ dA_ok
  obtain ⟨U, hU⟩ : ∃ U, U = boundT (tagA 1) dA := ⟨_, rfl⟩
  have hbi := Lib.hid (show ∀ w', Tabs w' → Calls Tryd.prog 8 #[.agg R1.toArray, .agg D.toArray] w' (GaveTok U 0 w') by
    rw [hR1, hD, hU]; exact fun w' h => bbind21_any (tagA 1) rfl dA dA_ok (by decide) none 0 w' h (sl_zeroK w'))
  have hf1 := Lib.hid (show ∀ B d w', Tabs w' → Calls Tryd.prog 13 #[.agg R1.toArray, .agg R2.toArray, .agg (tokV U B d).toArray] w' fun e w'' => e = .returned (.bool true) ∧ Below w'.heap.size w' w'' by
    rw [hR1, hR2, hU, ← fits_alive]; exact fun B d w' h => bfits21_any (tagA 1) rfl (tagA 2) rfl _ hUo B d w' h)
  have hf3 := Lib.hid (show ∀ B d w', Tabs w' → Calls Tryd.prog 13 #[.agg #[.int .u8 3, .int .u8 0, .int .u8 0, .int .u8 0, .int .u8 0, .int .u8 0, .int .u8 0, .int .u8 0, .int .u8 0, .int .u8 0, .int .u8 0, .int .u8 0, .int .u8 0, .int .u8 0, .int .u8 0, .int .u8 0, .int .u8 0, .int .u8 0, .int .u8 0, .int .u8 0, .int .u8 0, .int .u8 0, .int .u8 0, .int .u8 0, .int .u8 0, .int .u8 0, .int .u8 0, .int .u8 0, .int .u8 0, .int .u8 0, .int .u8 0, .int .u8 0], .agg R2.toArray, .agg (tokV U B d).toArray] w' fun e w'' => e = .returned (.bool false) ∧ Below w'.heap.size w' w'' by
    rw [← lit_tag3, hR2, hU, ← fits_alive3]; exact fun B d w' h => bfits21_any (tagA 3) rfl (tagA 2) rfl _ hUo B d w' h)
  rw [← hU] at hUo
  have hUb : U.bound = true := by rw [hU]; rfl
  have HD := Lib.hid hD
  have HR2 := Lib.hid hR2
  unfold GaveTok at hbi
  clear hR1 hR2 hD hU h1l h2l hDl
  go_enter Tryd.func6, Tryd.ntmps6
  go_wp2_with (first
    | (refine wpList_build1B rfl 23 0 _ rfl (.int .u8 1) (.agg R1.toArray) rfl (hb1.out _) ?_)
    | (refine wpList_build1B rfl 23 0 _ rfl (.int .u8 2) (.agg R2.toArray) rfl (hb2.out _) ?_)
    | (refine wpList_build1B rfl 27 4 (.tmp 6) rfl (.agg R2.toArray) (.agg D.toArray) rfl (hbD.out _) ?_)
    | (have _t := h32; refine wpList_store_row rfl 23 (.tmp 1) (.tmp 5) rfl w.heap.size R1.toArray rfl rfl 23 _ (alloc2_old _ _ _ _ _) hz1.out (Eq.trans (by kernel_rfl) h32.out) ho1.out ?_; refine Hid.out ?_))
  refine Lib.hid ?_
  generalize hw2 : World.setRow _ _ _ = w2
  obtain ⟨q1, q2, hq⟩ := two_rows19 (w := w) (A := List.replicate 32 (Value.int .u8 0)) (B := tokV zeroK none 0) (t := 23) (u := 27) rfl
  obtain ⟨r1, hg2⟩ := row_set (xs := R1) q1 hw2
  have r2 := q2.grown hg2 (by omega)
  have hb4 := hq.grown hg2 hq.size (fun k h => by cases h; exact Nat.le_refl _)
  have Q2 := Lib.hid (show w2.heap[w.heap.size + 1]? = some (.cells (tokV zeroK none 0).toArray 27 (0, 0)) from r2)
  clear hw2 q1 q2 hq hg2
  go_wp2_with (have _t := Q2; refine wpList_store_row rfl 27 (.tmp 2) (.tmp 7) rfl (w.heap.size + 1) D.toArray rfl rfl 27 _ Q2.out hzD.out (Eq.trans (by kernel_rfl) h36.out) hoD.out ?_; refine Hid.out ?_)
  refine Lib.hid ?_
  generalize hw3 : World.setRow _ _ _ = w3
  obtain ⟨s2, hg3⟩ := row_set (xs := D) (show Row w2 (w.heap.size + 1) 27 (tokV zeroK none 0) from Q2.out) hw3
  have s1 := r1.grown hg3 (by omega)
  have hb5 := hb4.grown hg3 hb4.size (fun k h => by cases h; omega)
  have S1 := Lib.hid (show w3.heap[w.heap.size]? = some (.cells R1.toArray 23 (0, 0)) from s1)
  have S2 := Lib.hid (show w3.heap[w.heap.size + 1]? = some (.cells D.toArray 27 (0, 0)) from s2)
  clear hw3 hg3 r1 r2 hb4 Q2
  go_wp2_with (first
    | (with_reducible refine wpList_load_row rfl 23 (.tmp 1) rfl w.heap.size rfl 23 R1.toArray (0, 0) _ S1.out Tryd.underlying23 rfl hz1.out ?_)
    | (with_reducible refine wpList_load_row rfl 27 (.tmp 2) rfl (w.heap.size + 1) rfl 27 D.toArray (0, 0) _ S2.out Tryd.underlying27 rfl hzD.out ?_)
    | (go_at_call 8; refine (hbi.out _ (hT.later hb5 (Nat.le_refl _))).mono ?_; rintro e w4 ⟨B, d, rfl, s4, -, hq⟩; have s1 := s1.later hq s1.lt; have s2 := s2.later hq s2.lt; have hb6 := hb5.trans (hq.mono hb5.size); have hVl := length_tokV hUo B d; have hoV := tokV_one U B d; have hcb : (tokV U B d)[3]? = some (.bool true) := (congrArg (fun b => some (Value.bool b)) hUb); obtain ⟨V, hV⟩ : ∃ V, V = tokV U B d := ⟨_, rfl⟩; have hf1 := Lib.hid (hf1.out B d); have hf3 := Lib.hid (hf3.out B d); rw [← hV] at hVl hoV hcb hf1 hf3 ⊢; have hzV := Lib.hid (show (Tryd.prog.info? 27).map (·.size) = some V.toArray.size by rw [List.size_toArray, hVl]; exact size_tok); have hyV := Lib.hid (show (Tryd.prog.info? 27).map (·.size) = some V.length by rw [hVl]; exact size_tok); have hV36 := Lib.hid (show 36 = V.toArray.size by rw [List.size_toArray, hVl]); have hV1 := Lib.hid (show V.toArray.all (·.oneCell') = true by rw [List.all_toArray, List.all_eq_true]; exact hoV); have HCB := Lib.hid hcb; clear hq hV hVl hoV hcb)
    | (have _t := hV36; refine wpList_store_row rfl 27 (.tmp 3) (.tmp 12) rfl w4.heap.size V.toArray rfl rfl 27 _ (heap_alloc_new w4 _) hzV.out (Eq.trans (by kernel_rfl) hV36.out) hV1.out ?_; refine Hid.out ?_))
  refine Lib.hid ?_
  generalize hw5 : World.setRow _ _ _ = w5
  obtain ⟨s3, hq⟩ := row_new_set (xs := V) hw5
  have s1 := s1.later hq s1.lt
  have s2 := s2.later hq s2.lt
  have hb7 := hb6.trans (hq.mono hb6.size)
  have hc3 : w5.cell? ⟨w4.heap.size, 3, none⟩ = some (.bool true) := by rw [s3.cell]; exact HCB.out
  generalize w4.heap.size = g at *
  have hrt := Lib.hid (show w5.rangeAt (w.heap.size + 1) 4 R2 from by rw [HR2.out]; exact tok_tag_range (HD.out ▸ s2))
  clear hw5 hq S1 S2 hb6 hb5
  go_wp2_with (first
    | ((with_reducible refine wpList_step fun K hK => ?_); refine step_load_mid (some 21) rfl (by rfl) 23 (.tmp 1) rfl w.heap.size 0 rfl R1 _ (row_range s1) Tryd.underlying23 rfl hy1.out ?_; refine hK _ _ ?_; clear hK)
    | ((with_reducible refine wpList_step fun K hK => ?_); refine step_load_mid (some 23) rfl (by rfl) 23 (.tmp 22) rfl (w.heap.size + 1) 4 rfl R2 _ hrt.out Tryd.underlying23 rfl hz2.out ?_; refine hK _ _ ?_; clear hK)
    | ((with_reducible refine wpList_step fun K hK => ?_); refine step_load_mid (some 24) rfl (by rfl) 27 (.tmp 3) rfl g 0 rfl V _ (row_range s3) Tryd.underlying27 rfl hyV.out ?_; refine hK _ _ ?_; clear hK)
    | (go_at_call 13; refine (hf1.out _ (hT.later hb7 (Nat.le_refl _))).mono ?_; rintro e w6 ⟨rfl, hq⟩; have s2 := s2.later hq s2.lt; have s3 := s3.later hq s3.lt; have hb8 := hb7.trans (hq.mono hb7.size); have hrt := Lib.hid (show w6.rangeAt (w.heap.size + 1) 4 R2 from by rw [HR2.out]; exact tok_tag_range (HD.out ▸ s2)); clear hq; refine Hid.out ?_))
  refine Lib.hid ?_
  clear hf1 s1
  go_wp2_with (first
    | ((with_reducible refine wpList_step fun K hK => ?_); refine step_load_mid (some 30) rfl (by rfl) 23 (.tmp 29) rfl (w.heap.size + 1) 4 rfl R2 _ hrt.out Tryd.underlying23 rfl hz2.out ?_; refine hK _ _ ?_; clear hK)
    | ((with_reducible refine wpList_step fun K hK => ?_); refine step_load_mid (some 31) rfl (by rfl) 27 (.tmp 3) rfl g 0 rfl V _ (row_range s3) Tryd.underlying27 rfl hyV.out ?_; refine hK _ _ ?_; clear hK)
    | (go_at_call 13; refine (hf3.out _ (hT.later hb8 (Nat.le_refl _))).mono ?_; rintro e w7 ⟨rfl, hq⟩; have hb9 := hb8.trans (hq.mono hb8.size); clear hq))
  go_ret
  exact ⟨by first | rfl | simp, hb9⟩
end Go.Proofs.YtnkkgclmmaakgaaDoor

/- LAYER 10: the document's Same. -/
namespace Go.Proofs.YtnkkgclmmaakgaaDoor
set_option maxRecDepth 100000
open Go Go.RowKit

theorem tag_neq (xs ys : List UInt8) (hx : xs.length = 32) (hy : ys.length = 32) (w : World) : (Op.equalIn 10000 23 (.agg (byts xs).toArray) (.agg (byts ys).toArray)).run Tryd.prog w = .ok (decide (xs = ys)) w := by
  obtain ⟨i0, hi, _⟩ := info_parts infoByte
  exact run_eq_bytes 23 32 i0 Tryd.underlying23 hi xs ys hx hy w
theorem run_eq_cav (a b : Cav) (w : World) : (Op.equalIn 10000 50 (.agg (cavV a).toArray) (.agg (cavV b).toArray)).run Tryd.prog w = .ok (decide (a = b)) w := by
  obtain ⟨a1, a2, a3, a4, a5⟩ := a
  obtain ⟨b1, b2, b3, b4, b5⟩ := b
  show (Op.equalIn 10000 50 (.agg #[.bool a1, .string (bstr a2), .int .u64 a3, .string (bstr a4), .string (bstr a5)]) (.agg #[.bool b1, .string (bstr b2), .int .u64 b3, .string (bstr b4), .string (bstr b5)])).run Tryd.prog w = _
  go_simp
  simp only [bstr_toList]
  by_cases h1 : a1 = b1 <;> by_cases h2 : a2 = b2 <;> by_cases h3 : a3 = b3 <;> by_cases h4 : a4 = b4 <;> by_cases h5 : a5 = b5 <;> simp [h1, h2, h3, h4, h5]
  all_goals omega
theorem take_same {cs ds : List Cav} {k : Nat} {a : Cav} (h : cs.take k = ds.take k) (ha : cs[k]? = some a) (hb : ds[k]? = some a) : cs.take (k + 1) = ds.take (k + 1) := by
  rw [List.take_add_one, List.take_add_one, h, ha, hb]
set_option maxRecDepth 100000 in
set_option maxHeartbeats 4000000 in
theorem rsame_any (t u : Tok) (ht : t.Ok) (hu : u.Ok) (A : Option Addr) (c : Nat) (B : Option Addr) (d : Nat) (w : World) (hs : Sl w A (c * 5) (t.cavs.flatMap cavV)) (hp : Sl w B (d * 5) (u.cavs.flatMap cavV)) (hcl : t.cavs.length ≤ 9223372036854775807) :
    Calls Tryd.prog 10 #[.agg (tokV t A c).toArray, .agg (tokV u B d).toArray] w fun e w' => e = .returned (.bool (decide (t = u))) ∧ Below w.heap.size w w' := by
  have hgt := tokV_get t A c
  have hgu := tokV_get u B d
  obtain ⟨V, hV⟩ : ∃ V, V = tokV t A c := ⟨_, rfl⟩
  obtain ⟨U, hU⟩ : ∃ U, U = tokV u B d := ⟨_, rfl⟩
  obtain ⟨r0, r1, hb1, hz⟩ := two_rows (w := w) (A := V) (B := U) (tA := 27) (tB := 27) rfl
  rw [← hV, ← hU]
  have tt := (tok_tag ht (by rw [← hV]; exact r0)).range
  have tu := (tok_tag hu (by rw [← hU]; exact r1)).range
  rw [← hV] at hgt
  rw [← hU] at hgu
  clear hV hU hz
  have hzt := Lib.hid (show (Tryd.prog.info? 23).map (·.size) = some (byts t.tag).length by rw [size_tag, length_byts, ht.tag])
  have hzu := Lib.hid (show (Tryd.prog.info? 23).map (·.size) = some (byts u.tag).length by rw [size_tag, length_byts, hu.tag])
  have hE := tag_neq t.tag u.tag ht.tag hu.tag
  have hne : ∀ p : Prop, (t = u → p) → ¬ p → decide (t = u) = false := fun p h1 h2 => decide_eq_false fun e => h2 (h1 e)
  have c0 : ((w.alloc (.cells V.toArray 27)).alloc (.cells U.toArray 27)).cell? ⟨w.heap.size, 0, none⟩ = some (.int .u64 t.key) := by rw [r0.cell]; exact hgt.1
  have c1 : ((w.alloc (.cells V.toArray 27)).alloc (.cells U.toArray 27)).cell? ⟨w.heap.size, 1, none⟩ = some (.string (bstr t.id)) := by rw [r0.cell]; exact hgt.2.1
  have c2 : ((w.alloc (.cells V.toArray 27)).alloc (.cells U.toArray 27)).cell? ⟨w.heap.size, 2, none⟩ = some (.slice A t.cavs.length c) := by rw [r0.cell]; exact hgt.2.2.1
  have c3 : ((w.alloc (.cells V.toArray 27)).alloc (.cells U.toArray 27)).cell? ⟨w.heap.size, 3, none⟩ = some (.bool t.bound) := by rw [r0.cell]; exact hgt.2.2.2
  have d0 : ((w.alloc (.cells V.toArray 27)).alloc (.cells U.toArray 27)).cell? ⟨w.heap.size + 1, 0, none⟩ = some (.int .u64 u.key) := by rw [r1.cell]; exact hgu.1
  have d1 : ((w.alloc (.cells V.toArray 27)).alloc (.cells U.toArray 27)).cell? ⟨w.heap.size + 1, 1, none⟩ = some (.string (bstr u.id)) := by rw [r1.cell]; exact hgu.2.1
  have d2 : ((w.alloc (.cells V.toArray 27)).alloc (.cells U.toArray 27)).cell? ⟨w.heap.size + 1, 2, none⟩ = some (.slice B u.cavs.length d) := by rw [r1.cell]; exact hgu.2.2.1
  have d3 : ((w.alloc (.cells V.toArray 27)).alloc (.cells U.toArray 27)).cell? ⟨w.heap.size + 1, 3, none⟩ = some (.bool u.bound) := by rw [r1.cell]; exact hgu.2.2.2
  have hs1 := hs.later (Nat.le_refl _) hb1
  have hp1 := hp.later (Nat.le_refl _) hb1
  have hlt1 := r0.lt
  have hlt2 := r1.lt
  clear hgt hgu hs hp r0 r1
  go_enter Tryd.func10, Tryd.ntmps10
  by_cases hK : t.key = u.key
  · have HK := Lib.hid hK
    rw [← hK] at d0
    clear hK
    by_cases hI : t.id = u.id
    · have HI := Lib.hid hI
      rw [← hI] at d1
      clear hI
      by_cases hB : t.bound = u.bound
      · have HB := Lib.hid hB
        rw [← hB] at d3
        clear hB
        by_cases hT : t.tag = u.tag
        · rw [decide_eq_true hT] at hE
          have HT := Lib.hid hT
          clear hT
          by_cases hL : t.cavs.length = u.cavs.length
          · have HL := Lib.hid hL
            rw [← hL] at d2
            clear hL
            go_wp2_with (first
              | (refine wpList_step fun K hK => ?_; refine step_load_mid (some 27) rfl (by rfl) 23 (.tmp 26) rfl w.heap.size 4 rfl (byts t.tag) _ tt Tryd.underlying23 rfl hzt.out ?_; refine hK _ _ ?_)
              | (refine wpList_step fun K hK => ?_; refine step_load_mid (some 29) rfl (by rfl) 23 (.tmp 28) rfl (w.heap.size + 1) 4 rfl (byts u.tag) _ tu Tryd.underlying23 rfl hzu.out ?_; refine hK _ _ ?_))
            have HEq := Lib.hid (fun (h : t.cavs = u.cavs) => (show t = u from (Tok.ext_iff' t u).2 ⟨HK.out, HI.out, h, HB.out, HT.out⟩))
            have HNe := Lib.hid (fun (h : t.cavs ≠ u.cavs) => hne (t.cavs = u.cavs) (fun e => by rw [e]) h)
            generalize (w.alloc (.cells V.toArray 27)).alloc (.cells U.toArray 27) = w1 at *
            have hc2 : ∀ w', Below w1.heap.size w1 w' → w'.cell? ⟨w.heap.size, 2, none⟩ = some (.slice A t.cavs.length c) := fun w' h => by rw [h.cell (p := ⟨w.heap.size, 2, none⟩) hlt1]; exact c2
            have hd2 : ∀ w', Below w1.heap.size w1 w' → w'.cell? ⟨w.heap.size + 1, 2, none⟩ = some (.slice B t.cavs.length d) := fun w' h => by rw [h.cell (p := ⟨w.heap.size + 1, 2, none⟩) hlt2]; exact d2
            have hL := HL.out
            clear c0 c1 c2 c3 d0 d1 d2 d3 hE hne HK HI HB HT tt tu hzt hzu HL
            generalize t.cavs = cs at *
            generalize u.cavs = ds at *
            go_loopw [44] (fun i wr => ∃ k : Nat, k ≤ cs.length ∧ i = .int .i64 k ∧ cs.take k = ds.take k ∧ Below w1.heap.size w1 wr) (fun i _ => cs.length - (intOf i).toNat)
            case atStart => exact ⟨0, by omega, rfl, rfl, Below.refl _ _⟩
            case round =>
              obtain ⟨k, hk, rfl, hsame, hb⟩ := hrel
              by_cases hlt : k < cs.length
              · obtain ⟨a, ha⟩ : ∃ a, cs[k]? = some a := ⟨_, List.getElem?_eq_getElem hlt⟩
                obtain ⟨e, he⟩ : ∃ e, ds[k]? = some e := ⟨_, List.getElem?_eq_getElem (by omega)⟩
                obtain ⟨b, o, rfl, hb0, hr0⟩ := hs1.rd.get (i := 0) (by rw [length_cavsV]; omega)
                clear hb0 hr0
                obtain ⟨b', o', rfl, hb0, hr0⟩ := hp1.rd.get (i := 0) (by rw [length_cavsV]; omega)
                clear hb0 hr0
                have hix := index_cav (some ⟨b, o, none⟩) b o cs.length c k rfl hlt
                have hiy := index_cav (some ⟨b', o', none⟩) b' o' cs.length d k rfl hlt
                have hrx := Lib.hid (show ∀ w', Below w1.heap.size w1 w' → w'.rangeAt b (o + k * 5) (cavV a) from fun w' h => (hs1.later (Nat.le_refl _) h).thing (k := 5) (fun _ _ => rfl) k a ha)
                have hry := Lib.hid (show ∀ w', Below w1.heap.size w1 w' → w'.rangeAt b' (o' + k * 5) (cavV e) from fun w' h => (hp1.later (Nat.le_refl _) h).thing (k := 5) (fun _ _ => rfl) k e he)
                have hzx := Lib.hid (show (Tryd.prog.info? 50).map (·.size) = some (cavV a).length from size_cav)
                have hzy := Lib.hid (show (Tryd.prog.info? 50).map (·.size) = some (cavV e).length from size_cav)
                have hE := run_eq_cav a e
                obtain ⟨VX, hVX⟩ : ∃ V, V = cavV a := ⟨_, rfl⟩
                obtain ⟨VY, hVY⟩ : ∃ V, V = cavV e := ⟨_, rfl⟩
                rw [← hVX] at hrx hzx hE
                rw [← hVY] at hry hzy hE
                clear hVX hVY
                by_cases hae : a = e
                · have HS := Lib.hid (take_same hsame ha (by rw [hae]; exact he))
                  rw [decide_eq_true hae] at hE
                  clear hae ha he hsame hs1 hp1
                  go_wp2_with fail
                  refine wp_region_noPanic ?_
                  refine wp_region_held_drew (S := fun w' => Below w1.heap.size w1 w') (by kernel_rfl) (hb.drew) (fun hHeld => ?_)
                  refine rt 0 47 hHeld ?_
                  refine rt 1 48 hHeld ?_
                  refine rt 2 49 hHeld ?_
                  refine rt 3 50 hHeld ?_
                  refine rt 4 51 hHeld ?_ (hy := by intro w hS; exact run_load_op 50 (.tmp 50) rfl b (o + k * 5) rfl VX _ (hrx.out _ hS) Tryd.underlying50 rfl hzx.out)
                  refine rt 5 52 hHeld ?_
                  refine rt 6 53 hHeld ?_
                  refine rt 7 54 hHeld ?_
                  refine rt 8 55 hHeld ?_
                  refine rt 9 56 hHeld ?_ (hy := by intro w hS; exact run_load_op 50 (.tmp 55) rfl b' (o' + k * 5) rfl VY _ (hry.out _ hS) Tryd.underlying50 rfl hzy.out)
                  refine rt 10 57 hHeld ?_
                  refine wpAnyH_done (by kernel_rfl) ?_ _
                  refine NoPanic.normal ?_
                  go_wp2_with fail
                  go_roundw
                  case rel => exact ⟨k + 1, by omega, by go_num, HS.out, hHeld⟩
                  case measure => simp [intOf]; omega
                · have HF := Lib.hid (HNe.out (fun h => hae (by rw [h] at ha; rw [ha] at he; exact Option.some.inj he)))
                  rw [decide_eq_false hae] at hE
                  clear hae ha he hsame hs1 hp1
                  go_wp2_with fail
                  refine wp_region_noPanic ?_
                  refine wp_region_held_drew (S := fun w' => Below w1.heap.size w1 w') (by kernel_rfl) (hb.drew) (fun hHeld => ?_)
                  refine rt 0 47 hHeld ?_
                  refine rt 1 48 hHeld ?_
                  refine rt 2 49 hHeld ?_
                  refine rt 3 50 hHeld ?_
                  refine rt 4 51 hHeld ?_ (hy := by intro w hS; exact run_load_op 50 (.tmp 50) rfl b (o + k * 5) rfl VX _ (hrx.out _ hS) Tryd.underlying50 rfl hzx.out)
                  refine rt 5 52 hHeld ?_
                  refine rt 6 53 hHeld ?_
                  refine rt 7 54 hHeld ?_
                  refine rt 8 55 hHeld ?_
                  refine rt 9 56 hHeld ?_ (hy := by intro w hS; exact run_load_op 50 (.tmp 55) rfl b' (o' + k * 5) rfl VY _ (hry.out _ hS) Tryd.underlying50 rfl hzy.out)
                  refine rt 10 57 hHeld ?_
                  refine wpAnyH_done (by kernel_rfl) ?_ _
                  refine NoPanic.normal ?_
                  go_wp2
                  go_ret
                  exact ⟨by rw [HF.out]; rfl, hb1.trans (hHeld.mono hb1.size)⟩
              · obtain rfl : k = cs.length := by omega
                rw [List.take_length, hL, List.take_length] at hsame
                have HF := Lib.hid (decide_eq_true (HEq.out hsame))
                clear hlt hk hs1 hp1 hsame HEq HNe
                generalize cs.length = n at *
                go_wp2
                go_ret
                exact ⟨by rw [HF.out]; rfl, hb1.trans (hb.mono hb1.size)⟩
          · have HE := Lib.hid (hne (t.cavs.length = u.cavs.length) (fun e => by rw [e]) hL)
            have hL' : ((t.cavs.length : Int) == (u.cavs.length : Int)) = false := by rw [beq_eq_false_iff_ne]; omega
            clear hL hs1 hp1 hne
            go_wp2_with (first
              | (refine wpList_step fun K hK => ?_; refine step_load_mid (some 27) rfl (by rfl) 23 (.tmp 26) rfl w.heap.size 4 rfl (byts t.tag) _ tt Tryd.underlying23 rfl hzt.out ?_; refine hK _ _ ?_)
              | (refine wpList_step fun K hK => ?_; refine step_load_mid (some 29) rfl (by rfl) 23 (.tmp 28) rfl (w.heap.size + 1) 4 rfl (byts u.tag) _ tu Tryd.underlying23 rfl hzu.out ?_; refine hK _ _ ?_))
            go_ret
            exact ⟨by rw [HE.out]; rfl, hb1⟩
        · have HE := Lib.hid (hne _ (fun e => by rw [e]) hT)
          rw [decide_eq_false hT] at hE
          clear hT hne hs1 hp1
          go_wp2_with (first
            | (refine wpList_step fun K hK => ?_; refine step_load_mid (some 27) rfl (by rfl) 23 (.tmp 26) rfl w.heap.size 4 rfl (byts t.tag) _ tt Tryd.underlying23 rfl hzt.out ?_; refine hK _ _ ?_)
            | (refine wpList_step fun K hK => ?_; refine step_load_mid (some 29) rfl (by rfl) 23 (.tmp 28) rfl (w.heap.size + 1) 4 rfl (byts u.tag) _ tu Tryd.underlying23 rfl hzu.out ?_; refine hK _ _ ?_))
          go_ret
          exact ⟨by rw [HE.out]; rfl, hb1⟩
      · have HE := Lib.hid (hne _ (fun e => by rw [e]) hB)
        have hL' : (t.bound == u.bound) = false := by rw [beq_eq_false_iff_ne]; exact hB
        clear hB hne hs1 hp1
        go_wp2
        go_ret
        exact ⟨by rw [HE.out]; rfl, hb1⟩
    · have HE := Lib.hid (hne _ (fun e => by rw [e]) hI)
      have hL' : ¬ (bstr t.id).toList = (bstr u.id).toList := by rw [bstr_toList, bstr_toList]; exact hI
      clear hI hne hs1 hp1
      go_wp2
      go_ret
      exact ⟨by rw [HE.out]; rfl, hb1⟩
  · have HE := Lib.hid (hne _ (fun e => by rw [e]) hK)
    have hL' : ¬ (t.key : Int) = (u.key : Int) := by omega
    clear hK hne hs1 hp1
    go_wp2
    go_ret
    exact ⟨by rw [HE.out]; rfl, hb1⟩
end Go.Proofs.YtnkkgclmmaakgaaDoor

/- LAYER 21, BindTells: the walk of the law. -/
namespace Go.Proofs.YtnkkgclmmaakgaaDoor
set_option maxRecDepth 100000
open Go Go.RowKit

/-- What holds from the law's start on. -/
structure BindI (w : World) (root en : List UInt8) (X : List Value) (t : Tok) (A : Option Addr) (c : Nat) (wx : World) : Prop where
  root : Row wx w.heap.size 23 (byts root)
  en : Row wx (w.heap.size + 1) 23 (byts en)
  tok : Row wx (w.heap.size + 1 + 1) 27 X
  sl : Sl wx A (c * 5) (t.cavs.flatMap cavV)
  env : Tabs wx
  bel : Below w.heap.size w wx
theorem BindI.later {w wx wy : World} {root en : List UInt8} {X : List Value} {t : Tok} {A : Option Addr} {c : Nat} (h : BindI w root en X t A c wx) (hq : Below wx.heap.size wx wy) : BindI w root en X t A c wy :=
  ⟨h.root.later hq h.root.lt, h.en.later hq h.en.lt, h.tok.later hq h.tok.lt, h.sl.later (Nat.le_refl _) hq, h.env.later hq (Nat.le_refl _), h.bel.trans (hq.mono h.bel.size)⟩
theorem eq_self21 (x : List UInt8) (hx : x.length = 32) (w : World) : (Op.equalIn 10000 23 (.agg (byts x).toArray) (.agg (byts x).toArray)).run Tryd.prog w = .ok true w := by
  obtain ⟨i8, hi8⟩ : ∃ i, Tryd.prog.info? 5 = some i := ⟨_, rfl⟩
  rw [run_eq_bytes 23 32 i8 Tryd.underlying23 hi8 x x hx hx w, decide_eq_true rfl]
theorem bindT_len (root : List UInt8) (t : Tok) : (bindT root t).cavs.length ≤ t.cavs.length := by
  unfold bindT; split
  · exact Nat.zero_le _
  · exact Nat.le_refl _
set_option maxHeartbeats 8000000 in
theorem bdtells_g1 (root : List UInt8) (hk : root.length = 32) (en : List UInt8) (hen : en.length = 32) (t : Tok) (ht : t.Ok) (htf : t.Fit) (A : Option Addr) (c : Nat) (w : World) (hs : Sl w A (c * 5) (t.cavs.flatMap cavV)) (hT : Tabs w) (g1 : 10000 < capT t) :
    Calls Tryd.prog 3 #[.agg (byts root).toArray, .agg (byts en).toArray, .agg (tokV t A c).toArray] w fun e w' => e = .returned (.bool true) ∧ Below w.heap.size w w' := by
  obtain ⟨X, hX⟩ : ∃ X, X = tokV t A c := ⟨_, rfl⟩
  have hXl : X.length = 36 := by rw [hX]; exact length_tokV ht A c
  have hzX := Lib.hid (show (Tryd.prog.info? 27).map (·.size) = some X.length by rw [hXl]; exact size_tok)
  have hkz := Lib.hid (show (Tryd.prog.info? 23).map (·.size) = some (byts root).length by rw [size_tag, tag_fit _ hk])
  have hnz := Lib.hid (show (Tryd.prog.info? 23).map (·.size) = some (byts en).length by rw [size_tag, tag_fit _ hen])
  have htz := Lib.hid (show (Tryd.prog.info? 23).map (·.size) = some (byts t.tag).length by rw [size_tag, tag_fit _ ht.tag])
  obtain ⟨w1, hw1⟩ : ∃ w1, w1 = ((w.alloc (.cells (byts root).toArray 23)).alloc (.cells (byts en).toArray 23)).alloc (.cells X.toArray 27) := ⟨_, rfl⟩
  obtain ⟨r1, r2, r3, hb1, -⟩ := rows3 hw1.symm
  have HW := Lib.hid hw1
  have I : BindI w root en X t A c w1 := ⟨r1, r2, r3, hs.later (Nat.le_refl _) hb1, hT.later hb1 (Nat.le_refl _), hb1⟩
  have hgt := fun w' h => rgreatT_any t htf A c w' h
  have HX := Lib.hid hX
  rw [← hX] at hgt
  rw [← hX]
  clear hw1 hX hXl r1 r2 r3 hb1
  have tok1 : True := trivial
  simp only [if_pos g1] at hgt
  have hgt := Lib.hid hgt
  go_enter Tryd.func3, Tryd.ntmps3
  go_wp2_with (first
    | (have _t := tok1; rw [← HW.out]; clear tok1)
    | (go_at_call 6; refine (balive21_any _ I.env).mono ?_; rintro e w2 ⟨rfl, hq⟩; have I := I.later hq; have K3 := Lib.hid (row_range I.tok); clear hq)
    | (with_reducible refine wpList_load_mid rfl 27 (.tmp 5) rfl (w.heap.size + 1 + 1) 0 rfl X _ K3.out Tryd.underlying27 rfl hzX.out ?_)
    | (go_at_call 7; refine (hgt.out _ I.sl).mono ?_; rintro e w3 ⟨rfl, hq⟩; have I := I.later hq; clear hq))
  go_ret
  exact ⟨rfl, I.bel⟩
set_option maxHeartbeats 8000000 in
theorem bdtells_main (root : List UInt8) (hk : root.length = 32) (en : List UInt8) (hen : en.length = 32) (t : Tok) (ht : t.Ok) (htf : t.Fit) (A : Option Addr) (c : Nat) (w : World) (hs : Sl w A (c * 5) (t.cavs.flatMap cavV)) (hT : Tabs w) (g1 : ¬ 10000 < capT t) :
    Calls Tryd.prog 3 #[.agg (byts root).toArray, .agg (byts en).toArray, .agg (tokV t A c).toArray] w fun e w' => e = .returned (.bool true) ∧ Below w.heap.size w w' := by
  obtain ⟨X, hX⟩ : ∃ X, X = tokV t A c := ⟨_, rfl⟩
  have hXl : X.length = 36 := by rw [hX]; exact length_tokV ht A c
  have hzX := Lib.hid (show (Tryd.prog.info? 27).map (·.size) = some X.length by rw [hXl]; exact size_tok)
  have hkz := Lib.hid (show (Tryd.prog.info? 23).map (·.size) = some (byts root).length by rw [size_tag, tag_fit _ hk])
  have hnz := Lib.hid (show (Tryd.prog.info? 23).map (·.size) = some (byts en).length by rw [size_tag, tag_fit _ hen])
  have htz := Lib.hid (show (Tryd.prog.info? 23).map (·.size) = some (byts t.tag).length by rw [size_tag, tag_fit _ ht.tag])
  obtain ⟨w1, hw1⟩ : ∃ w1, w1 = ((w.alloc (.cells (byts root).toArray 23)).alloc (.cells (byts en).toArray 23)).alloc (.cells X.toArray 27) := ⟨_, rfl⟩
  obtain ⟨r1, r2, r3, hb1, -⟩ := rows3 hw1.symm
  have HW := Lib.hid hw1
  have I : BindI w root en X t A c w1 := ⟨r1, r2, r3, hs.later (Nat.le_refl _) hb1, hT.later hb1 (Nat.le_refl _), hb1⟩
  have hgt := fun w' h => rgreatT_any t htf A c w' h
  have HX := Lib.hid hX
  rw [← hX] at hgt
  rw [← hX]
  clear hw1 hX hXl r1 r2 r3 hb1
  have tok1 : True := trivial
  simp only [if_neg g1] at hgt
  have hgt := Lib.hid hgt
  have hml : t.cavs.length ≤ 1000000 := by
    have h1 := capT_len t.cavs
    unfold capT at g1; omega
  have hda := Lib.hid (show ∀ w', Tabs w' → Sl w' A (c * 5) (t.cavs.flatMap cavV) → Calls Tryd.prog 8 #[.agg (byts root).toArray, .agg X.toArray] w' (GaveTok (bindT root t) (errBind t) w') by
    rw [HX.out]; exact fun w' h hs => bbind21_any root hk t ht hml A c w' h hs)
  have hra := Lib.hid (show ∀ w', Sl w' A (c * 5) (t.cavs.flatMap cavV) → Calls Tryd.prog 9 #[.agg (byts root).toArray, .agg X.toArray] w' (GaveTok (bindT root t) (errBind t) w') by
    rw [HX.out]; exact fun w' hs => rbind21_any root hk t ht hml A c w' hs)
  have hdt := Lib.hid (fun w' h => btag21_any root hk en hen w' h)
  have hrt := Lib.hid (fun w' => rtag21_any root hk en hen w')
  have hdf := Lib.hid (show ∀ w', Tabs w' → Calls Tryd.prog 13 #[.agg (byts root).toArray, .agg (byts en).toArray, .agg X.toArray] w' fun e w'' => e = .returned (.bool (fitsT root en t)) ∧ Below w'.heap.size w' w'' by rw [HX.out]; exact fun w' h => bfits21_any root hk en hen t ht A c w' h)
  have hrf := Lib.hid (show ∀ w', Calls Tryd.prog 14 #[.agg (byts root).toArray, .agg (byts en).toArray, .agg X.toArray] w' fun e w'' => e = .returned (.bool (fitsT root en t)) ∧ Below w'.heap.size w' w'' by rw [HX.out]; exact fun w' => rfits_any root hk en hen t ht A c w')
  have hdg := Lib.hid (show ∀ w', Tabs w' → Calls Tryd.prog 13 #[.agg (byts root).toArray, .agg (byts t.tag).toArray, .agg X.toArray] w' fun e w'' => e = .returned (.bool (fitsT root t.tag t)) ∧ Below w'.heap.size w' w'' by rw [HX.out]; exact fun w' h => bfits21_any root hk t.tag ht.tag t ht A c w' h)
  have hrg := Lib.hid (show ∀ w', Calls Tryd.prog 14 #[.agg (byts root).toArray, .agg (byts t.tag).toArray, .agg X.toArray] w' fun e w'' => e = .returned (.bool (fitsT root t.tag t)) ∧ Below w'.heap.size w' w'' by rw [HX.out]; exact fun w' => rfits_any root hk t.tag ht.tag t ht A c w')
  have hqe := Lib.hid (fun W => eq_self21 (bindG root en) (length_bindG root en) W)
  have hUo := bindT_ok root ht
  have hUl := bindT_len root t
  generalize bindT root t = U at *
  generalize errBind t = er at *
  generalize bindG root en = GE at *
  generalize fitsT root en t = f1 at *
  generalize fitsT root t.tag t = f2 at *
  have hss := Lib.hid (fun (B : Option Addr) (d : Nat) (B' : Option Addr) (d' : Nat) (w' : World) h h' => rsame_any U U hUo hUo B d B' d' w' h h' (by omega))
  simp only [decide_true] at hss
  have HKL := Lib.hid ht
  clear hUl hml hk hen ht
  unfold GaveTok at hda hra
  go_enter Tryd.func3, Tryd.ntmps3
  go_wp2_with (first
    | (have _t := tok1; rw [← HW.out]; clear tok1)
    | (go_at_call 6; refine (balive21_any _ I.env).mono ?_; rintro e w2 ⟨rfl, hq⟩; have I := I.later hq; have K3 := Lib.hid (row_range I.tok); clear hq)
    | (with_reducible refine wpList_load_mid rfl 27 (.tmp 5) rfl (w.heap.size + 1 + 1) 0 rfl X _ K3.out Tryd.underlying27 rfl hzX.out ?_)
    | (with_reducible refine wpList_load_mid rfl 23 (.tmp 3) rfl w.heap.size 0 rfl (byts root) _ K1.out Tryd.underlying23 rfl hkz.out ?_)
    | (go_at_call 7; refine (hgt.out _ I.sl).mono ?_; rintro e w3 ⟨rfl, hq⟩; have I := I.later hq; clear hq; have K3 := Lib.hid (row_range I.tok); have K1 := Lib.hid (row_range I.root))
    | (go_at_call 8; refine (hda.out _ I.env I.sl).mono ?_; rintro e w4 ⟨B1, d1, rfl, t1, -, hq⟩; have I := I.later hq; clear hq; have hVl := length_tokV hUo B1 d1; have hzV := Lib.hid (show (Tryd.prog.info? 27).map (·.size) = some (tokV U B1 d1).toArray.size by rw [List.size_toArray, hVl]; exact size_tok); have h36 := Lib.hid (show 36 = (tokV U B1 d1).toArray.size by rw [List.size_toArray, hVl]); have hV1 := Lib.hid (show (tokV U B1 d1).toArray.all (·.oneCell') = true by rw [List.all_toArray, List.all_eq_true]; exact tokV_one _ _ _); clear hVl)
    | (have _t := h36; refine wpList_store_row rfl 27 (.tmp 7) (.tmp 20) rfl w4.heap.size (tokV U B1 d1).toArray rfl rfl 27 _ (heap_alloc_new w4 _) hzV.out (Eq.trans (by kernel_rfl) h36.out) hV1.out ?_; refine Hid.out ?_))
  refine Lib.hid ?_
  generalize hww : World.setRow _ _ _ = w5
  obtain ⟨q1, hq⟩ := row_new_set (xs := tokV U B1 d1) hww
  have I := I.later hq
  have t1 := t1.later (Nat.le_refl _) hq
  generalize w4.heap.size = b1 at *
  clear hww hq hzV h36 hV1 hda K3 K1
  have K3 := Lib.hid (row_range I.tok)
  have K1 := Lib.hid (row_range I.root)
  go_wp2_with (first
    | (with_reducible refine wpList_load_mid rfl 27 (.tmp 5) rfl (w.heap.size + 1 + 1) 0 rfl X _ K3.out Tryd.underlying27 rfl hzX.out ?_)
    | (with_reducible refine wpList_load_mid rfl 23 (.tmp 3) rfl w.heap.size 0 rfl (byts root) _ K1.out Tryd.underlying23 rfl hkz.out ?_)
    | (go_at_call 9; refine (hra.out _ I.sl).mono ?_; rintro e w6 ⟨B2, d2, rfl, t2, -, hq⟩; have I := I.later hq; have t1 := t1.later (Nat.le_refl _) hq; have q1 := q1.later hq q1.lt; clear hq; have hVl := length_tokV hUo B2 d2; have hzV := Lib.hid (show (Tryd.prog.info? 27).map (·.size) = some (tokV U B2 d2).toArray.size by rw [List.size_toArray, hVl]; exact size_tok); have h36 := Lib.hid (show 36 = (tokV U B2 d2).toArray.size by rw [List.size_toArray, hVl]); have hV1 := Lib.hid (show (tokV U B2 d2).toArray.all (·.oneCell') = true by rw [List.all_toArray, List.all_eq_true]; exact tokV_one _ _ _); clear hVl)
    | (have _t := h36; refine wpList_store_row rfl 27 (.tmp 9) (.tmp 26) rfl w6.heap.size (tokV U B2 d2).toArray rfl rfl 27 _ (heap_alloc_new w6 _) hzV.out (Eq.trans (by kernel_rfl) h36.out) hV1.out ?_; refine Hid.out ?_))
  refine Lib.hid ?_
  generalize hww : World.setRow _ _ _ = w7
  obtain ⟨q2, hq⟩ := row_new_set (xs := tokV U B2 d2) hww
  have I := I.later hq
  have t1 := t1.later (Nat.le_refl _) hq
  have q1 := q1.later hq q1.lt
  have t2 := t2.later (Nat.le_refl _) hq
  generalize w6.heap.size = b2 at *
  have hz1 := Lib.hid (show (Tryd.prog.info? 27).map (·.size) = some (tokV U B1 d1).length by rw [length_tokV hUo]; exact size_tok)
  have hz2 := Lib.hid (show (Tryd.prog.info? 27).map (·.size) = some (tokV U B2 d2).length by rw [length_tokV hUo]; exact size_tok)
  have hsm := Lib.hid (hss.out B1 d1 B2 d2)
  clear hww hq hzV h36 hV1 hra K3 K1 hss hUo
  go_upto_region 7 with fail
  refine wp_region_noPanic ?_
  refine wp_region_held_drew (S := fun w' => BindI w root en X t A c w' ∧ Row w' b1 27 (tokV U B1 d1) ∧ Row w' b2 27 (tokV U B2 d2) ∧ Sl w' B1 (d1 * 5) (U.cavs.flatMap cavV) ∧ Sl w' B2 (d2 * 5) (U.cavs.flatMap cavV)) (by kernel_rfl) ((fun (hd : Below w7.heap.size w7 w7.drew) => ⟨I.later hd, q1.later hd q1.lt, q2.later hd q2.lt, t1.later (Nat.le_refl _) hd, t2.later (Nat.le_refl _) hd⟩) ((Below.refl _ _).drew)) (fun hHeld => ?_)
  have hB : Below w7.heap.size w7 w7.drew := (Below.refl _ _).drew
  refine rt 0 28 hHeld ?_
  refine rt 1 29 hHeld ?_
  refine rt 2 30 hHeld ?_
  refine rt 3 31 hHeld ?_
  refine rt 4 32 hHeld ?_ (hy := by intro w hS; exact run_load_op 27 (.tmp 7) rfl b1 0 rfl (tokV U B1 d1) _ (row_range hS.2.1) Tryd.underlying27 rfl hz1.out)
  refine rt 5 33 hHeld ?_ (hy := by intro w hS; exact run_load_op 27 (.tmp 9) rfl b2 0 rfl (tokV U B2 d2) _ (row_range hS.2.2.1) Tryd.underlying27 rfl hz2.out)
  refine rc1 6 fun K hK => ?_
  go_simp
  refine (hsm.out _ hHeld.2.2.2.1 hHeld.2.2.2.2).mono ?_; rintro e ww76 ⟨rfl, hqw76⟩
  try go_wp2_with fail
  refine hK.out _ _ ⟨hHeld.1.later hqw76, hHeld.2.1.later hqw76 hHeld.2.1.lt, hHeld.2.2.1.later hqw76 hHeld.2.2.1.lt, hHeld.2.2.2.1.later (Nat.le_refl _) hqw76, hHeld.2.2.2.2.later (Nat.le_refl _) hqw76⟩ (fun hHeld => ?_)
  clear hK K
  have hB := below_step hB hqw76
  have hB6 : Below ww76.heap.size ww76 ww76 := Below.refl _ _
  refine rt 7 35 hHeld ?_
  refine rt 8 36 hHeld ?_
  refine rt 9 37 hHeld ?_ (hy := by intro w hS; exact run_load_op 23 (.tmp 3) rfl _ 0 rfl (byts root) _ (row_range hS.1.root) Tryd.underlying23 rfl hkz.out)
  refine rt 10 38 hHeld ?_ (hy := by intro w hS; exact run_load_op 23 (.tmp 4) rfl _ 0 rfl (byts en) _ (row_range hS.1.en) Tryd.underlying23 rfl hnz.out)
  refine rt 12 40 hHeld ?_ (hy := by intro w hS; exact run_load_op 23 (.tmp 3) rfl _ 0 rfl (byts root) _ (row_range hS.1.root) Tryd.underlying23 rfl hkz.out)
  refine rt 13 41 hHeld ?_ (hy := by intro w hS; exact run_load_op 23 (.tmp 4) rfl _ 0 rfl (byts en) _ (row_range hS.1.en) Tryd.underlying23 rfl hnz.out)
  refine rc1 11 fun K hK => ?_
  go_simp
  refine (hdt.out _ hHeld.1.env).mono ?_; rintro e ww711 ⟨rfl, hqw711⟩
  try go_wp2_with fail
  refine hK.out _ _ ⟨hHeld.1.later hqw711, hHeld.2.1.later hqw711 hHeld.2.1.lt, hHeld.2.2.1.later hqw711 hHeld.2.2.1.lt, hHeld.2.2.2.1.later (Nat.le_refl _) hqw711, hHeld.2.2.2.2.later (Nat.le_refl _) hqw711⟩ (fun hHeld => ?_)
  clear hK K
  have hB := below_step hB hqw711
  have hB6 := below_step hB6 hqw711
  have hB11 : Below ww711.heap.size ww711 ww711 := Below.refl _ _
  refine rc1 14 fun K hK => ?_
  go_simp
  refine (hrt.out _).mono ?_; rintro e ww714 ⟨rfl, hqw714⟩
  try go_wp2_with fail
  refine hK.out _ _ ⟨hHeld.1.later hqw714, hHeld.2.1.later hqw714 hHeld.2.1.lt, hHeld.2.2.1.later hqw714 hHeld.2.2.1.lt, hHeld.2.2.2.1.later (Nat.le_refl _) hqw714, hHeld.2.2.2.2.later (Nat.le_refl _) hqw714⟩ (fun hHeld => ?_)
  clear hK K
  have hB := below_step hB hqw714
  have hB6 := below_step hB6 hqw714
  have hB11 := below_step hB11 hqw714
  have hB14 : Below ww714.heap.size ww714 ww714 := Below.refl _ _
  refine rt 15 43 hHeld ?_ (hy := by intro w hS; have h1 := hqe.out w; go_simp; try with_reducible rfl)
  refine rt 16 44 hHeld ?_
  refine rt 17 45 hHeld ?_
  refine rt 18 46 hHeld ?_ (hy := by intro w hS; exact run_load_op 23 (.tmp 3) rfl _ 0 rfl (byts root) _ (row_range hS.1.root) Tryd.underlying23 rfl hkz.out)
  refine rt 19 47 hHeld ?_ (hy := by intro w hS; exact run_load_op 23 (.tmp 4) rfl _ 0 rfl (byts en) _ (row_range hS.1.en) Tryd.underlying23 rfl hnz.out)
  refine rt 20 48 hHeld ?_ (hy := by intro w hS; exact run_load_op 27 (.tmp 5) rfl _ 0 rfl X _ (row_range hS.1.tok) Tryd.underlying27 rfl hzX.out)
  refine rt 22 50 hHeld ?_ (hy := by intro w hS; exact run_load_op 23 (.tmp 3) rfl _ 0 rfl (byts root) _ (row_range hS.1.root) Tryd.underlying23 rfl hkz.out)
  refine rt 23 51 hHeld ?_ (hy := by intro w hS; exact run_load_op 23 (.tmp 4) rfl _ 0 rfl (byts en) _ (row_range hS.1.en) Tryd.underlying23 rfl hnz.out)
  refine rt 24 52 hHeld ?_ (hy := by intro w hS; exact run_load_op 27 (.tmp 5) rfl _ 0 rfl X _ (row_range hS.1.tok) Tryd.underlying27 rfl hzX.out)
  refine rc1 21 fun K hK => ?_
  go_simp
  refine (hdf.out _ hHeld.1.env).mono ?_; rintro e ww721 ⟨rfl, hqw721⟩
  try go_wp2_with fail
  refine hK.out _ _ ⟨hHeld.1.later hqw721, hHeld.2.1.later hqw721 hHeld.2.1.lt, hHeld.2.2.1.later hqw721 hHeld.2.2.1.lt, hHeld.2.2.2.1.later (Nat.le_refl _) hqw721, hHeld.2.2.2.2.later (Nat.le_refl _) hqw721⟩ (fun hHeld => ?_)
  clear hK K
  have hB := below_step hB hqw721
  have hB6 := below_step hB6 hqw721
  have hB11 := below_step hB11 hqw721
  have hB14 := below_step hB14 hqw721
  have hB21 : Below ww721.heap.size ww721 ww721 := Below.refl _ _
  refine rc1 25 fun K hK => ?_
  go_simp
  refine (hrf.out _).mono ?_; rintro e ww725 ⟨rfl, hqw725⟩
  try go_wp2_with fail
  refine hK.out _ _ ⟨hHeld.1.later hqw725, hHeld.2.1.later hqw725 hHeld.2.1.lt, hHeld.2.2.1.later hqw725 hHeld.2.2.1.lt, hHeld.2.2.2.1.later (Nat.le_refl _) hqw725, hHeld.2.2.2.2.later (Nat.le_refl _) hqw725⟩ (fun hHeld => ?_)
  clear hK K
  have hB := below_step hB hqw725
  have hB6 := below_step hB6 hqw725
  have hB11 := below_step hB11 hqw725
  have hB14 := below_step hB14 hqw725
  have hB21 := below_step hB21 hqw725
  have hB25 : Below ww725.heap.size ww725 ww725 := Below.refl _ _
  refine rt 26 54 hHeld ?_
  refine rt 27 55 hHeld ?_
  refine rt 28 56 hHeld ?_
  refine rt 29 57 hHeld ?_ (hy := by intro w hS; exact run_load_op 23 (.tmp 3) rfl _ 0 rfl (byts root) _ (row_range hS.1.root) Tryd.underlying23 rfl hkz.out)
  refine rt 30 58 hHeld ?_
  refine rt 31 59 hHeld ?_ (hy := by intro w hS; exact run_load_op 23 (.tmp 58) rfl _ 4 rfl (byts t.tag) _ (tok_tag_range (A := A) (c := c) (HX.out ▸ hS.1.tok)) Tryd.underlying23 rfl htz.out)
  refine rt 32 60 hHeld ?_ (hy := by intro w hS; exact run_load_op 27 (.tmp 5) rfl _ 0 rfl X _ (row_range hS.1.tok) Tryd.underlying27 rfl hzX.out)
  refine rt 34 62 hHeld ?_ (hy := by intro w hS; exact run_load_op 23 (.tmp 3) rfl _ 0 rfl (byts root) _ (row_range hS.1.root) Tryd.underlying23 rfl hkz.out)
  refine rt 35 63 hHeld ?_
  refine rt 36 64 hHeld ?_ (hy := by intro w hS; exact run_load_op 23 (.tmp 63) rfl _ 4 rfl (byts t.tag) _ (tok_tag_range (A := A) (c := c) (HX.out ▸ hS.1.tok)) Tryd.underlying23 rfl htz.out)
  refine rt 37 65 hHeld ?_ (hy := by intro w hS; exact run_load_op 27 (.tmp 5) rfl _ 0 rfl X _ (row_range hS.1.tok) Tryd.underlying27 rfl hzX.out)
  refine rc1 33 fun K hK => ?_
  go_simp
  refine (hdg.out _ hHeld.1.env).mono ?_; rintro e ww733 ⟨rfl, hqw733⟩
  try go_wp2_with fail
  refine hK.out _ _ ⟨hHeld.1.later hqw733, hHeld.2.1.later hqw733 hHeld.2.1.lt, hHeld.2.2.1.later hqw733 hHeld.2.2.1.lt, hHeld.2.2.2.1.later (Nat.le_refl _) hqw733, hHeld.2.2.2.2.later (Nat.le_refl _) hqw733⟩ (fun hHeld => ?_)
  clear hK K
  have hB := below_step hB hqw733
  have hB6 := below_step hB6 hqw733
  have hB11 := below_step hB11 hqw733
  have hB14 := below_step hB14 hqw733
  have hB21 := below_step hB21 hqw733
  have hB25 := below_step hB25 hqw733
  have hB33 : Below ww733.heap.size ww733 ww733 := Below.refl _ _
  refine rc1 38 fun K hK => ?_
  go_simp
  refine (hrg.out _).mono ?_; rintro e ww738 ⟨rfl, hqw738⟩
  try go_wp2_with fail
  refine hK.out _ _ ⟨hHeld.1.later hqw738, hHeld.2.1.later hqw738 hHeld.2.1.lt, hHeld.2.2.1.later hqw738 hHeld.2.2.1.lt, hHeld.2.2.2.1.later (Nat.le_refl _) hqw738, hHeld.2.2.2.2.later (Nat.le_refl _) hqw738⟩ (fun hHeld => ?_)
  clear hK K
  have hB := below_step hB hqw738
  have hB6 := below_step hB6 hqw738
  have hB11 := below_step hB11 hqw738
  have hB14 := below_step hB14 hqw738
  have hB21 := below_step hB21 hqw738
  have hB25 := below_step hB25 hqw738
  have hB33 := below_step hB33 hqw738
  have hB38 : Below ww738.heap.size ww738 ww738 := Below.refl _ _
  refine rt 39 67 hHeld ?_
  refine rt 40 68 hHeld ?_
  refine rt 41 6 hHeld ?_
  refine wpAnyH_done (by kernel_rfl) ?_ _
  refine NoPanic.normal ?_
  have hbz := hHeld.1.bel
  clear hHeld
  go_wp2_with fail
  go_ret
  exact ⟨by first | rfl | simp, hbz⟩
theorem bdtells_walk (root : List UInt8) (hk : root.length = 32) (en : List UInt8) (hen : en.length = 32) (t : Tok) (ht : t.Ok) (htf : t.Fit) (A : Option Addr) (c : Nat) (w : World) (hs : Sl w A (c * 5) (t.cavs.flatMap cavV)) (hT : Tabs w) :
    Calls Tryd.prog 3 #[.agg (byts root).toArray, .agg (byts en).toArray, .agg (tokV t A c).toArray] w fun e w' => e = .returned (.bool true) ∧ Below w.heap.size w w' := by
  by_cases g1 : 10000 < capT t
  · exact bdtells_g1 root hk en hen t ht htf A c w hs hT g1
  exact bdtells_main root hk en hen t ht htf A c w hs hT g1
end Go.Proofs.YtnkkgclmmaakgaaDoor
