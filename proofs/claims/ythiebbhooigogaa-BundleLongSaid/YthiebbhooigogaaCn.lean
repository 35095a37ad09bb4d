/- LAYER 10: the document's number, Can, Caveat, Check. -/
import Derived.Test.YthiebbhooigogaaPl
import Derived.Test.YthiebbhooigogaaVr
import Derived.Test.YthiebbhooigogaaJ9
namespace Go.Proofs.Ythiebbhooigogaa
open Go Go.RowKit

theorem rnum_any (n : Nat) (h : n < 18446744073709551616) (w : World) :
    Calls Try.prog 52 #[.int .u64 n] w fun e w' => e = .returned (.string (bstr (varL n))) ∧ Below w.heap.size w w' := by
  have hv := Lib.hid (rbytes8_any n h)
  go_enter Try.func52, Try.ntmps52
  go_wp2_with (go_at_call 57; refine (hv.out _).mono ?_; rintro e w1 ⟨v1, rfl, hown1, hb1⟩; obtain ⟨A1, c1, rfl, _, hsl1⟩ := Sl.of_own hown1; have hcv := conv_bytes hsl1 _ rfl; clear hown1 hsl1)
  go_ret
  exact ⟨rfl, hb1⟩
theorem size_empty : (bstr ([] : List UInt8)) = { data := #[] } := rfl
theorem beq_empty (l : List UInt8) : ((bstr l).toList == ({ data := #[] } : ByteArray).toList) = decide (l = []) := bstr_beq l []
set_option maxHeartbeats 1000000 in
theorem rcan_any (c : Cav) (w : World) :
    Calls Try.prog 45 #[.agg (cavV c).toArray] w fun e w' => e = .returned (.bool (canC c)) ∧ Below w.heap.size w w' := by
  obtain ⟨third, text, party, id, vault⟩ := c
  have hb := (Below.refl w.heap.size w).alloc (Nat.le_refl _) (.cells (cavV ⟨third, text, party, id, vault⟩).toArray 51)
  have h1 := size_bstr text
  have h2 := size_bstr id
  have h3 := size_bstr vault
  have e1 := beq_empty text
  have e2 := beq_empty id
  have e3 := beq_empty vault
  unfold cavV
  clear h1 h2 h3 e1 e2 e3
  have h1 := size_bstr text
  have h2 := size_bstr id
  have h3 := size_bstr vault
  have e1 := bstr_toList text
  have e2 := bstr_toList id
  have e3 := bstr_toList vault
  cases third
  · go_enter Try.func45, Try.ntmps45
    go_wp2
    all_goals go_ret
    all_goals refine ⟨?_, (Below.refl _ _).alloc (Nat.le_refl _) _⟩
    all_goals simp_all [canC]
    all_goals first | (intro; omega) | (have hq : text.length ≤ 512 := (by omega); cases vault <;> simp [hq]) | (have hq : id.length ≤ 1024 := (by omega); rw [decide_eq_true hq, Bool.true_and]; exact decide_eq_decide.2 (by omega))
  · go_enter Try.func45, Try.ntmps45
    go_wp2
    all_goals go_ret
    all_goals refine ⟨?_, (Below.refl _ _).alloc (Nat.le_refl _) _⟩
    all_goals simp_all [canC]
    all_goals first | (intro; omega) | (have hq : text.length ≤ 512 := (by omega); cases vault <;> simp [hq]) | (have hq : id.length ≤ 1024 := (by omega); rw [decide_eq_true hq, Bool.true_and]; exact decide_eq_decide.2 (by omega))
set_option maxRecDepth 20000 in
set_option maxHeartbeats 1000000 in
theorem rcav_any (c : Cav) (hp : c.party < 18446744073709551616) (w : World) :
    Calls Try.prog 53 #[.agg (cavV c).toArray] w fun e w' => ∃ A d, e = .returned (.slice A (cavF c).length d) ∧ Sl w' A (d * 2) ((cavF c).flatMap fdV) ∧ Below w.heap.size w w' := by
  obtain ⟨third, text, party, id, vault⟩ := c
  have hnum := Lib.hid (rnum_any party hp)
  have hb1 : Below w.heap.size w (w.alloc (.cells (cavV ⟨third, text, party, id, vault⟩).toArray 51)) := (Below.refl _ _).alloc (Nat.le_refl _) _
  have hr : Row (w.alloc (.cells (cavV ⟨third, text, party, id, vault⟩).toArray 51)) w.heap.size 51 (cavV ⟨third, text, party, id, vault⟩) := Row.new w 51 _
  unfold cavV at *
  cases third
  · go_enter Try.func53, Try.ntmps53
    go_wp2
    go_ret
    exact ⟨_, 1, rfl, ⟨Rd.block (fr := (0, 0)) (t := 65) (heap_alloc2_new w _ _), Nat.le_refl _, fun h => by cases h⟩, hb1.alloc hb1.size _⟩
  · go_enter Try.func53, Try.ntmps53
    go_wp2_with fail
    generalize hw1 : World.alloc w _ = w1 at hb1 hr ⊢
    clear hw1
    have hc0 : ∀ w', Below w1.heap.size w1 w' → w'.cell? ⟨w.heap.size, 2, none⟩ = some (.int .u64 party) := fun w' h => by rw [(hr.later h hr.lt).cell]; rfl
    have hc1 : ∀ w', Below w1.heap.size w1 w' → w'.cell? ⟨w.heap.size, 3, none⟩ = some (.string (bstr id)) := fun w' h => by rw [(hr.later h hr.lt).cell]; rfl
    have hc2 : ∀ w', Below w1.heap.size w1 w' → w'.cell? ⟨w.heap.size, 4, none⟩ = some (.string (bstr vault)) := fun w' h => by rw [(hr.later h hr.lt).cell]; rfl
    refine wp_region_noPanic ?_
    refine wp_region_held_drew (S := fun w' => Below w1.heap.size w1 w') (by kernel_rfl) ((Below.refl _ _).drew) (fun hHeld => ?_)
    refine rtake 0 _ (some 5) _ rfl rfl (by kernel_rfl) (by kernel_rfl) (by kernel_rfl) (fun _ _ _ h => h) (by rfl) hHeld (by intro w hS; go_simp; try with_reducible rfl) ?_
    try (first | (rw [put_some]; dsimp only [List.set]) | rw [put_none])
    refine rtake 1 _ (some 6) _ rfl rfl (by kernel_rfl) (by kernel_rfl) (by kernel_rfl) (fun _ _ _ h => h) (by rfl) hHeld (by intro w hS; go_simp; try with_reducible rfl) ?_
    try (first | (rw [put_some]; dsimp only [List.set]) | rw [put_none])
    refine rtake 4 _ (some 9) _ rfl rfl (by kernel_rfl) (by kernel_rfl) (by kernel_rfl) (fun _ _ _ h => h) (by rfl) hHeld (by intro w hS; go_simp; try with_reducible rfl) ?_
    try (first | (rw [put_some]; dsimp only [List.set]) | rw [put_none])
    refine rtake 5 _ (some 10) _ rfl rfl (by kernel_rfl) (by kernel_rfl) (by kernel_rfl) (fun _ _ _ h => h) (by rfl) hHeld (by intro w hS; go_simp; try with_reducible rfl) ?_
    try (first | (rw [put_some]; dsimp only [List.set]) | rw [put_none])
    refine rtake 6 _ (some 11) _ rfl rfl (by kernel_rfl) (by kernel_rfl) (by kernel_rfl) (fun _ _ _ h => h) (by rfl) hHeld (by intro w hS; go_simp; try with_reducible rfl) ?_
    try (first | (rw [put_some]; dsimp only [List.set]) | rw [put_none])
    refine rtake 7 _ (some 12) _ rfl rfl (by kernel_rfl) (by kernel_rfl) (by kernel_rfl) (fun _ _ _ h => h) (by rfl) hHeld (by intro w hS; go_simp; try with_reducible rfl) ?_
    try (first | (rw [put_some]; dsimp only [List.set]) | rw [put_none])
    refine rtake 8 _ (some 13) _ rfl rfl (by kernel_rfl) (by kernel_rfl) (by kernel_rfl) (fun _ _ _ h => h) (by rfl) hHeld (by intro w hS; go_simp; try with_reducible rfl) ?_
    try (first | (rw [put_some]; dsimp only [List.set]) | rw [put_none])
    refine rtake 9 _ (some 14) _ rfl rfl (by kernel_rfl) (by kernel_rfl) (by kernel_rfl) (fun _ _ _ h => h) (by rfl) hHeld (by intro w hS; go_simp; try with_reducible rfl) ?_
    try (first | (rw [put_some]; dsimp only [List.set]) | rw [put_none])
    refine wpAnyH_ready (rs := [2]) (by kernel_rfl) (by simp) (AllReadyH.cons (o := _) rfl (fun K hK => ?_) AllReadyH.nil)
    go_simp
    refine (hnum.out _).mono ?_; rintro e w2 ⟨rfl, hb2⟩; have hq2 := hHeld.trans (hb2.mono hHeld.size)
    try go_wp2_with fail
    refine hK.out _ _ (hq2) (fun hHeld => ?_)
    clear hK K
    try (first | (rw [put_some]; dsimp only [List.set]) | rw [put_none])
    refine rtake 3 _ (some 8) _ rfl rfl (by kernel_rfl) (by kernel_rfl) (by kernel_rfl) (fun _ _ _ h => h) (by rfl) hHeld (by intro w hS; go_simp; try with_reducible rfl) ?_
    try (first | (rw [put_some]; dsimp only [List.set]) | rw [put_none])
    refine wpAnyH_ready (rs := [10]) (by kernel_rfl) (by simp) (AllReadyH.cons (o := _) rfl (fun K hK => ?_) AllReadyH.nil)
    refine step_alloc (some 15) rfl (by rfl) (.slice (some ⟨w2.heap.size, 0, none⟩) 3 3) (.cells (([(4, varL party), (5, id), (6, vault)] : List Fd).flatMap fdV).toArray 65) (by go_simp; try rfl) ?_; intro w3 hw3 hb3; have hsl : Sl w3 (some ⟨w2.heap.size, 0, none⟩) (3 * 2) (([(4, varL party), (5, id), (6, vault)] : List Fd).flatMap fdV) := (by rw [hw3]; exact ⟨Rd.block (Go.heap_alloc_new w2 _), Nat.le_refl _, fun h => by cases h⟩); have hq3 := hHeld.trans (hb3.mono hHeld.size); clear hw3
    refine hK.out _ _ (hq3) (fun hHeld => ?_)
    clear hK K
    try (first | (rw [put_some]; dsimp only [List.set]) | rw [put_none])
    refine rtake 11 _ (some 2) _ rfl rfl (by kernel_rfl) (by kernel_rfl) (by kernel_rfl) (fun _ _ _ h => h) (by rfl) hHeld (by intro w hS; go_simp; try with_reducible rfl) ?_
    try (first | (rw [put_some]; dsimp only [List.set]) | rw [put_none])
    refine wpAnyH_done (by kernel_rfl) ?_ _
    refine NoPanic.normal ?_
    go_wp2
    go_ret
    exact ⟨_, 3, rfl, hsl, hb1.trans (hq3.mono hb1.size)⟩
theorem index_cav (A : Option Addr) (b o n c k : Nat) (hA : A = some ⟨b, o, none⟩) (hk : k < n) (w : World) :
    (Instr.indexAt 23 (.slice A n c) (.int .i64 k)).run Try.prog w = .ok (.pointer (some ⟨b, o + k * 5, none⟩)) w := by
  subst hA
  have h : (k : Int) < (n : Int) := by omega
  go_simp
theorem size_cav : (Try.prog.info? 51).map (·.size) = some 5 := by kernel_rfl
theorem size_tok : (Try.prog.info? 27).map (·.size) = some 36 := by kernel_rfl
theorem tokV_get (t : Tok) (A : Option Addr) (c : Nat) : (tokV t A c)[0]? = some (.int .u64 t.key) ∧ (tokV t A c)[1]? = some (.string (bstr t.id)) ∧ (tokV t A c)[2]? = some (.slice A t.cavs.length c) ∧ (tokV t A c)[3]? = some (.bool t.bound) := ⟨rfl, rfl, rfl, rfl⟩
theorem check_id {t : Tok} (h : 1024 < t.id.length) : checkT t = false := by
  unfold checkT
  rw [decide_eq_false (by omega), Bool.false_and, Bool.false_and]
theorem check_many {t : Tok} (h : 64 < t.cavs.length) : checkT t = false := by
  unfold checkT
  rw [decide_eq_false (p := t.cavs.length ≤ 64) (by omega), Bool.and_false, Bool.false_and]
theorem check_cavs {t : Tok} (h : t.id.length ≤ 1024) (h2 : t.cavs.length ≤ 64) : checkT t = t.cavs.all canC := by
  unfold checkT
  rw [decide_eq_true h, decide_eq_true h2]; rfl
theorem all_take {cs : List Cav} {k : Nat} {c : Cav} (h : (cs.take k).all canC = true) (hc : cs[k]? = some c) : (cs.take (k + 1)).all canC = canC c := by
  rw [List.take_add_one, hc, List.all_append, h]
  simp
theorem all_bad {cs : List Cav} {k : Nat} {c : Cav} (hc : cs[k]? = some c) (h : canC c = false) : cs.all canC = false := by
  rw [List.all_eq_false]
  exact ⟨c, List.mem_of_getElem? hc, by rw [h]; exact Bool.false_ne_true⟩
set_option maxRecDepth 20000 in
set_option maxHeartbeats 2000000 in
theorem rcheck_any (t : Tok) (A : Option Addr) (c : Nat) (w : World) (hs : Sl w A (c * 5) (t.cavs.flatMap cavV)) :
    Calls Try.prog 28 #[.agg (tokV t A c).toArray] w fun e w' => e = .returned (.bool (checkT t)) ∧ Below w.heap.size w w' := by
  have hb1 : Below w.heap.size w (w.alloc (.cells (tokV t A c).toArray 27)) := (Below.refl _ _).alloc (Nat.le_refl _) _
  have hr : Row (w.alloc (.cells (tokV t A c).toArray 27)) w.heap.size 27 (tokV t A c) := Row.new w 27 _
  have hg := tokV_get t A c
  obtain ⟨V, hV⟩ : ∃ V, V = tokV t A c := ⟨_, rfl⟩
  rw [← hV] at hb1 hr hg ⊢
  clear hV
  have hc1 : (w.alloc (.cells V.toArray 27)).cell? ⟨w.heap.size, 1, none⟩ = some (.string (bstr t.id)) := by rw [hr.cell]; exact hg.2.1
  have hc2 : (w.alloc (.cells V.toArray 27)).cell? ⟨w.heap.size, 2, none⟩ = some (.slice A t.cavs.length c) := by rw [hr.cell]; exact hg.2.2.1
  have hz := size_bstr t.id
  clear hg hr
  by_cases h1 : 1024 < t.id.length
  · have HE := Lib.hid (check_id h1)
    have h1' : (1024 : Int) < (t.id.length : Int) := by omega
    clear hs h1
    go_enter Try.func28, Try.ntmps28
    go_wp2
    go_ret
    exact ⟨by rw [HE.out]; rfl, hb1⟩
  by_cases h2 : 64 < t.cavs.length
  · have HE := Lib.hid (check_many h2)
    have h1' : (t.id.length : Int) ≤ 1024 := by omega
    have h2' : (64 : Int) < (t.cavs.length : Int) := by omega
    clear hs h1 h2
    go_enter Try.func28, Try.ntmps28
    go_wp2
    go_ret
    exact ⟨by rw [HE.out]; rfl, hb1⟩
  have HE := Lib.hid (check_cavs (t := t) (by omega) (by omega))
  have h1' : (t.id.length : Int) ≤ 1024 := by omega
  have h2' : (t.cavs.length : Int) ≤ 64 := by omega
  obtain ⟨cs, hcs⟩ : ∃ cs, cs = t.cavs := ⟨_, rfl⟩
  rw [← hcs] at hs HE hc2 h2'
  clear h1 h2 hcs
  go_enter Try.func28, Try.ntmps28
  go_wp2_with fail
  generalize w.alloc (.cells V.toArray 27) = w1 at *
  clear hc1 hc2
  go_loopw [18] (fun i wr => ∃ k : Nat, k ≤ cs.length ∧ i = .int .i64 k ∧ (cs.take k).all canC = true ∧ Below w.heap.size w wr) (fun i _ => cs.length - (intOf i).toNat)
  case atStart => exact ⟨0, by omega, rfl, rfl, hb1⟩
  case round =>
    clear hb1
    obtain ⟨k, hk, rfl, hall, hb⟩ := hrel
    by_cases hlt : k < cs.length
    · obtain ⟨cv, hcv⟩ : ∃ cv, cs[k]? = some cv := ⟨_, List.getElem?_eq_getElem hlt⟩
      obtain ⟨b, o, rfl, hb0, hr0⟩ := hs.rd.get (i := 0) (by rw [length_cavsV]; omega)
      clear hb0 hr0
      have hix := index_cav (some ⟨b, o, none⟩) b o cs.length c k rfl hlt
      have hrg := (hs.later (Nat.le_refl _) hb).thing (k := 5) (fun _ _ => rfl) k cv hcv
      have HA := Lib.hid (all_take hall hcv)
      have HB := Lib.hid (all_bad hcv)
      have hcan := Lib.hid (rcan_any cv)
      have hzf := Lib.hid (show (Try.prog.info? 51).map (·.size) = some (cavV cv).length from size_cav)
      have hzf2 := Lib.hid (show (Try.prog.info? 51).map (·.size) = some (cavV cv).toArray.size from size_cav)
      have hof := Lib.hid (show (cavV cv).toArray.all (·.oneCell') = true from all_one (fun v hv => cavV_one [cv] v (by simpa using hv)))
      obtain ⟨V2, hV2q⟩ : ∃ V, V = cavV cv := ⟨_, rfl⟩
      rw [← hV2q] at hrg hcan hzf hzf2 hof
      have hV2 := Lib.hid (show (5 : Nat) = V2.toArray.size by rw [hV2q]; rfl)
      clear hV2q hcv hall
      go_wp2_with (first
        | (with_reducible refine wpList_load_mid rfl 51 (.tmp 20) rfl b (o + k * 5) rfl V2 _ hrg Try.underlying51 rfl hzf.out ?_)
        | (with_reducible refine wpList_store_row rfl 51 (.tmp 4) (.tmp 21) rfl wr.heap.size V2.toArray rfl rfl 51 _ (heap_alloc_new wr _) hzf2.out (Eq.trans (by kernel_rfl) hV2.out) hof.out ?_; refine Hid.out ?_))
      refine Lib.hid ?_
      generalize hw5 : World.setRow _ _ _ = w5
      obtain ⟨r5, hb5⟩ := row_new_set (xs := V2) hw5
      have R5 := Lib.hid (show w5.heap[wr.heap.size]? = some (.cells V2.toArray 51 (0, 0)) from r5)
      have hbw5 := hb.trans (hb5.mono hb.size)
      clear hw5 r5 hb5
      cases hcan2 : canC cv with
      | false =>
        rw [hcan2] at hcan
        have HF := Lib.hid (HB.out hcan2)
        clear hcan2
        go_wp2_with (first
          | (with_reducible refine wpList_load_row rfl 51 (.tmp 4) rfl wr.heap.size rfl 51 V2.toArray (0, 0) _ R5.out Try.underlying51 rfl hzf2.out ?_)
          | (go_at_call 45; refine (hcan.out _).mono ?_; rintro e w6 ⟨rfl, hb6⟩; have hbw6 := hbw5.trans (hb6.mono hbw5.size)))
        go_ret
        exact ⟨by rw [HE.out, HF.out]; rfl, hbw6⟩
      | true =>
        rw [hcan2] at hcan HA
        clear hcan2
        go_wp2_with (first
          | (with_reducible refine wpList_load_row rfl 51 (.tmp 4) rfl wr.heap.size rfl 51 V2.toArray (0, 0) _ R5.out Try.underlying51 rfl hzf2.out ?_)
          | (go_at_call 45; refine (hcan.out _).mono ?_; rintro e w6 ⟨rfl, hb6⟩; have hbw6 := hbw5.trans (hb6.mono hbw5.size)))
        go_roundw
        case rel => exact ⟨k + 1, by omega, by go_num, HA.out, hbw6⟩
        case measure => simp [intOf]; omega
    · obtain rfl : k = cs.length := by omega
      rw [List.take_length] at hall
      have HL := Lib.hid hall
      clear hlt hk hs hall h2'
      generalize cs.length = n at *
      go_wp2
      go_ret
      exact ⟨by rw [HE.out, HL.out]; rfl, hb⟩
end Go.Proofs.Ythiebbhooigogaa
