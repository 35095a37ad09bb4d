/- LAYER 3: package digest's Sum. -/
import Derived.Test.YtefbopgbikmohaaDoorDw
namespace Go.Proofs.YtefbopgbikmohaaDoor
open Go Go.RowKit

theorem index8 (ws : List (BitVec 32)) (hl : ws.length = 8) (k : Nat) (hk : k < 8) (w : World) :
    (Instr.index 61 (.agg (words ws).toArray) (.int .i64 k)).run Tryd.prog w = .ok (.int .u32 (u (ws.getD k 0#32))) w := by
  have hc : (words ws).toArray[k]? = some (.int .u32 (u (ws.getD k 0#32))) := by
    rw [List.getElem?_toArray, get_words _ _ (by omega)]
  have h1 : (Go.part 40 (words ws).toArray k).run Tryd.prog w = .ok (.int .u32 (u (ws.getD k 0#32))) w := by
    simp only [Go.part, isAgg, Sem.run_bind, run_underlying Tryd.underlying40, Result.andThen_ok, Sem.run_pure, hc]
    rfl
  simp [Instr.index, asIntOf, run_underlying Tryd.underlying61, hk, h1]
theorem length_wordsB (ws : List (BitVec 32)) : (wordsB ws).length = 4 * ws.length := by
  unfold wordsB
  induction ws with
  | nil => rfl
  | cons x ws ih => rw [List.flatMap_cons, List.length_append, ih]; simp [bytesL]; omega
theorem wordsB_succ (ws : List (BitVec 32)) (k : Nat) (h : k < ws.length) : wordsB (ws.take (k + 1)) = wordsB (ws.take k) ++ bytesL (ws.getD k 0#32) := by
  unfold wordsB
  rw [List.take_add_one, List.flatMap_append]
  simp [h]
theorem sum_splice (X : List UInt8) (x : BitVec 32) (k : Nat) (hX : X.length = 4 * k) (hk : k < 8) : splice (byts X ++ List.replicate (32 - 4 * k) (.int .u8 0)) (4 * k) (byts (bytesL x)) = byts (X ++ bytesL x) ++ List.replicate (32 - 4 * (k + 1)) (.int .u8 0) := by
  unfold splice
  rw [← hX, ← length_byts X, List.take_left, List.drop_length_add_append, List.drop_replicate, byts_append, length_byts, length_byts, show (bytesL x).length = 4 from rfl, List.append_assoc]
  congr 3
  omega
set_option maxRecDepth 20000 in
set_option maxHeartbeats 1000000 in
theorem sum_any (g : Nat) (l : List UInt8) (w : World) (hT : Cube w) (hd : Dgt w g l) (hm : l.length ≤ 2305843009213693952) :
    Calls Tryd.prog 25 #[.pointer (some ⟨g, 0, none⟩)] w fun e w' => e = .returned (.agg (byts (shaL l)).toArray) ∧ Below w.heap.size w w' := by
  have hs8 := Lib.hid size8
  have hpl := length_padL l.length
  have hpn := noughts_lt l.length
  have hml : l.length + (padL l.length).length ≤ 4611686018427387904 := by omega
  obtain ⟨ws, hws⟩ : ∃ ws, ws = (shaS l).list := ⟨_, rfl⟩
  have hwl : ws.length = 8 := by rw [hws]; rfl
  have hpm := padded_mod l
  have HW := Lib.hid hws
  have HPM := Lib.hid hpm
  have HPL := Lib.hid hpl
  have hsz8 := Lib.hid (show (Tryd.prog.info? 61).map (·.size) = some (words ws).length by rw [size8, length_words, hwl])
  have HWL := Lib.hid hwl
  clear hws hwl hpm hpl
  go_enter Tryd.func25, Tryd.ntmps25
  go_wp2_with (first
    | (go_at_call 26; refine (clone_any g l _ (hd.later ((Below.refl _ _).alloc (Nat.le_refl _) _) hd.lt)).mono ?_; rintro e w1 ⟨g1, rfl, hg1, hd1, hb1⟩; have hbA : Below w.heap.size w w1 := ((Below.refl _ _).alloc (Nat.le_refl _) _).trans (hb1.mono (by rw [World.size_alloc]; omega)); have r0 := (Row.new w 23 (List.replicate 32 (.int .u8 0))).later hb1 (Row.new w 23 (List.replicate 32 (.int .u8 0))).lt; have c72 := (hd.later hbA hd.lt).many; rw [World.size_alloc] at hg1; clear hb1)
    | (go_at_call 34; refine (pad_any l.length _).mono ?_; rintro e w2 ⟨v2, rfl, hown2, hb2⟩; obtain ⟨A2, c2, rfl, hl2, hsl2⟩ := Sl.of_own hown2)
    | (go_at_call 24; refine (write_any g1 l (padL l.length) A2 c2 _ (hT.later (hbA.trans (hb2.mono hbA.size)) (Nat.le_refl _)) (hd1.later hb2 hd1.lt) hsl2 (fun _ a ha => own_apart hown2 hd1.lt a ha) hml).mono ?_; rintro e w3 ⟨rfl, hd3, hg3⟩; have hr3 := Lib.hid (show ∀ ob, (w3.alloc ob).rangeAt g1 0 (words ws) from fun ob => by rw [HW.out]; exact World.rangeAt_alloc hd3.range ob))
    | (with_reducible refine wpList_load_mid rfl 61 (.tmp 18) rfl g1 0 rfl (words ws) _ (hr3.out _) Tryd.underlying61 rfl hsz8.out ?_))
  have hbB := hbA.trans (hb2.mono hbA.size)
  have hbC : Below w.heap.size w w3 := hbB.grown hg3 hbB.size (fun k h => by cases h; omega)
  have r3 := (r0.later hb2 r0.lt).grown hg3 (by omega)
  have hlt3 := r3.lt
  have hnew := Row.new w3 23 (List.replicate 32 (.int .u8 0))
  have hb4 := hbC.alloc hbC.size (.cells (List.replicate 32 (Value.int .u8 0)).toArray 23)
  have r4 := r3.later ((Below.refl _ w3).alloc (Nat.le_refl _) (.cells (List.replicate 32 (Value.int .u8 0)).toArray 23)) hlt3
  clear hd1 hbA r0 c72 hb2 hown2 hl2 hsl2 hd3 hg3 hr3 hd hT hbB hbC r3 hg1
  go_loopw [20] (fun i wr => ∃ k : Nat, k ≤ 8 ∧ i = .int .i64 k ∧ Row wr w3.heap.size 23 (byts (wordsB (ws.take k)) ++ List.replicate (32 - 4 * k) (.int .u8 0)) ∧ Row wr w.heap.size 23 (List.replicate 32 (.int .u8 0)) ∧ Below w.heap.size w wr) (fun i _ => 8 - (intOf i).toNat)
  case atStart => exact ⟨0, by omega, rfl, hnew, r4, hb4⟩
  case round =>
    clear hnew r4 hb4
    obtain ⟨k, hk, rfl, hrow, r0, hb⟩ := hrel
    by_cases hlt : k < 8
    · have hix := index8 ws HWL.out k hlt
      have hI0 : IntKind.i64.wrap (4 * (k : Int)) = 4 * (k : Int) := by rw [IntKind.wrap_i64]; omega
      have hI1 : (0 : Int) ≤ 4 * (k : Int) := by omega
      have hI2 : 4 * (k : Int) ≤ 32 := by omega
      have hI3 : ¬ (32 = 4 * k) := by omega
      have hI4 : (4 * (k : Int)).toNat = 4 * k := by omega
      obtain ⟨X, hX⟩ : ∃ X, X = wordsB (ws.take k) := ⟨_, rfl⟩
      have hXl : X.length = 4 * k := by rw [hX, length_wordsB, List.length_take, HWL.out]; omega
      have HXS := Lib.hid (show wordsB (ws.take (k + 1)) = X ++ bytesL (ws.getD k 0#32) by rw [hX]; exact wordsB_succ ws k (by rw [HWL.out]; exact hlt))
      rw [← hX] at hrow
      obtain ⟨x, hx⟩ : ∃ x, x = ws.getD k 0#32 := ⟨_, rfl⟩
      rw [← hx] at hix HXS
      have hmin := Lib.hid (show 4 = Nat.min 4 (32 - 4 * k) by show 4 = min 4 (32 - 4 * k); omega)
      have hfit := Lib.hid (show 4 * k + (byts (bytesL x)).length ≤ (byts X ++ List.replicate (32 - 4 * k) (Value.int .u8 0)).length by rw [List.length_append, length_byts, length_byts, List.length_replicate, hXl]; show 4 * k + 4 ≤ _; omega)
      have HXL := Lib.hid hXl
      clear hX hXl hx
      go_wp2_with fail
      refine wp_region_noPanic ?_
      refine wp_region_held_drew (S := fun _ => True) (by kernel_rfl) (trivial) (fun hHeld => ?_)
      refine rtake 0 _ (some 24) _ rfl rfl (by kernel_rfl) (by kernel_rfl) (by kernel_rfl) (fun _ _ _ h => h) (by rfl) hHeld (by intro w hS; go_simp; try with_reducible rfl) ?_
      try (first | (rw [put_some]; dsimp only [List.set]) | rw [put_none])
      refine rtake 1 _ (some 25) _ rfl rfl (by kernel_rfl) (by kernel_rfl) (by kernel_rfl) (fun _ _ _ h => h) (by rfl) hHeld (by intro w hS; go_simp; try with_reducible rfl) ?_
      try (first | (rw [put_some]; dsimp only [List.set]) | rw [put_none])
      refine rtake 2 _ (some 26) _ rfl rfl (by kernel_rfl) (by kernel_rfl) (by kernel_rfl) (fun _ _ _ h => h) (by rfl) hHeld (by intro w hS; go_simp; try with_reducible rfl) ?_
      try (first | (rw [put_some]; dsimp only [List.set]) | rw [put_none])
      refine rtake 3 _ (some 27) _ rfl rfl (by kernel_rfl) (by kernel_rfl) (by kernel_rfl) (fun _ _ _ h => h) (by rfl) hHeld (by intro w hS; go_simp; try with_reducible rfl) ?_
      try (first | (rw [put_some]; dsimp only [List.set]) | rw [put_none])
      refine wpAnyH_ready (rs := [4]) (by kernel_rfl) (by simp) (AllReadyH.cons (o := _) rfl (fun K hK => ?_) AllReadyH.nil)
      go_simp
      refine (put_at none 0 0 [] x _ rfl ⟨.inl rfl, Nat.le_refl _, fun _ => rfl⟩ (by simp)).mono ?_; rintro e w5 ⟨v5, rfl, hown5, hb5⟩; have hown5 : w5.ownsRow wr.drew.heap.size 5 1 v5 4 (byts (bytesL x)) := hown5; obtain ⟨g5, cap5, rfl, hg5, _⟩ := hown5.form (by omega)
      try go_wp2_with fail
      refine hK.out _ _ (trivial) (fun hHeld => ?_)
      clear hK K
      try (first | (rw [put_some]; dsimp only [List.set]) | rw [put_none])
      refine wpAnyH_ready (rs := [5]) (by kernel_rfl) (by simp) (AllReadyH.cons (o := _) rfl (fun K hK => ?_) AllReadyH.nil)
      refine step_copy_row (some 29) rfl (by rfl) (.tmp 26) (.tmp 28) 27 27 rfl 5 Tryd.underlying27 sizeByte w3.heap.size _ _ _ _ _ _ rfl rfl 23 _ (hrow.drew.later hb5 hrow.lt) (byts (bytesL x)) 4 (by rw [length_byts]; rfl) hmin.out (hown5.cells rfl) hfit.out (byts_one _) ?_; intro w6 hr6 hg6
      refine hK.out _ _ (trivial) (fun _ => ?_)
      clear hK K
      try (first | (rw [put_some]; dsimp only [List.set]) | rw [put_none])
      refine wpAnyH_done (by kernel_rfl) ?_ _
      refine NoPanic.normal ?_
      rw [sum_splice X x k HXL.out hlt] at hr6
      have r0' := (r0.drew.later hb5 r0.lt).grown hg6 (by omega)
      have hb' := (hb.drew.trans (hb5.mono hb.size)).grown hg6 (Nat.le_trans hb.size hb5.size) (fun k h => by cases h; omega)
      clear hb5 hown5 hg6 r0 hb hmin hfit hHeld hI0 hI1 hI2 hI3 hI4 hix hrow
      go_wp2_with fail
      go_roundw
      case rel => exact ⟨k + 1, by omega, by go_num, by rw [HXS.out]; exact hr6, r0', hb'⟩
      case measure => simp [intOf]; omega
    · have e8 : k = 8 := by omega
      rw [e8, List.take_of_length_le (by rw [HWL.out]; exact Nat.le_refl _), show 32 - 4 * 8 = 0 from rfl, List.replicate_zero, List.append_nil, HW.out] at hrow
      have hV : wordsB (shaS l).list = shaL l := rfl
      rw [hV] at hrow
      obtain ⟨V, hVq⟩ : ∃ V, V = byts (shaL l) := ⟨_, rfl⟩
      rw [← hVq] at hrow
      have hVl : V.length = 32 := by rw [hVq, length_byts]; rfl
      have hone := Lib.hid (all_one (show ∀ v ∈ V, v.oneCell' = true by rw [hVq]; exact byts_one _))
      have hsz := Lib.hid (show (Tryd.prog.info? 23).map (·.size) = some V.toArray.size by rw [size_tag, List.size_toArray, hVl])
      have hszo := Lib.hid (show (List.replicate 32 (Value.int .u8 0)).toArray.size = V.toArray.size by rw [List.size_toArray, List.size_toArray, List.length_replicate, hVl])
      have R1 := Lib.hid (show wr.heap[w3.heap.size]? = some (.cells V.toArray 23 (0, 0)) from hrow)
      have R0 := Lib.hid (show wr.heap[w.heap.size]? = some (.cells (List.replicate 32 (Value.int .u8 0)).toArray 23 (0, 0)) from r0)
      have HV := Lib.hid hVq
      clear hV hVq hVl hrow r0
      go_wp2_with (first
        | (with_reducible refine wpList_load_row rfl 23 (.tmp 4) rfl w3.heap.size rfl 23 V.toArray (0, 0) (.array 32 5) R1.out Tryd.underlying23 rfl hsz.out ?_)
        | ((with_reducible refine wpList_store_row rfl 23 (.tmp 2) (.tmp 31) rfl w.heap.size V.toArray rfl rfl 23 _ R0.out hsz.out hszo.out hone.out ?_); have HG := Lib.hid (setRow_heap wr w.heap.size _ V.toArray 23 (0, 0) R0.out))
        | (with_reducible refine bodyPost_ret (results_cell_row rfl _ _ w.heap.size 23 V.toArray (0, 0) (.array 32 5) rfl HG.out Tryd.underlying23 rfl hsz.out) rfl ?_))
      exact ⟨by rw [HV.out], below_setRow hb (Nat.le_refl _) _⟩
end Go.Proofs.YtefbopgbikmohaaDoor
