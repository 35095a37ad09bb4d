/- LAYER 2, BlockWords: the walk of the law. -/
import Derived.Test.YtflapjnjmolhfaaDoorPad
import Derived.Test.YtflapjnjmolhfaaDoorCf2
namespace Go.Proofs.YtflapjnjmolhfaaDoor
open Go.RowKit

theorem index_words8 (ws : List (BitVec 32)) (hl : ws.length = 8) (k : Nat) (hk : k < 8) (w : World) :
    (Instr.index 23 (.agg (words ws).toArray) (.int .i64 k)).run Tryd.prog w = .ok (.int .u32 (u (ws.getD k 0#32))) w := by
  have hc : (words ws).toArray[k]? = some (.int .u32 (u (ws.getD k 0#32))) := by
    rw [List.getElem?_toArray, get_words _ _ (by omega)]
  have h1 : (Go.part 22 (words ws).toArray k).run Tryd.prog w = .ok (.int .u32 (u (ws.getD k 0#32))) w := by
    simp only [Go.part, isAgg, Sem.run_bind, run_underlying Tryd.underlying22, Result.andThen_ok, Sem.run_pure, hc]
    rfl
  simp [Instr.index, asIntOf, run_underlying Tryd.underlying23, hk, h1]
theorem rows2 (w : World) (A B : List Value) (tA tB : TypeId) :
    Row ((w.alloc (.cells A.toArray tA)).alloc (.cells B.toArray tB)) w.heap.size tA A ∧ Row ((w.alloc (.cells A.toArray tA)).alloc (.cells B.toArray tB)) (w.heap.size + 1) tB B ∧ Below w.heap.size w ((w.alloc (.cells A.toArray tA)).alloc (.cells B.toArray tB)) := by
  have s1 : (w.alloc (.cells A.toArray tA)).heap.size = w.heap.size + 1 := World.size_alloc _ _
  refine ⟨(Row.new w tA A).later ((Below.refl _ _).alloc (Nat.le_refl _) _) (by rw [s1]; omega), ?_, ((Below.refl _ _).alloc (Nat.le_refl _) _).alloc (by rw [s1]; omega) _⟩
  have := Row.new (w.alloc (.cells A.toArray tA)) tB B
  rw [s1] at this; exact this
theorem Row.sl {w : World} {g : Nat} {t : TypeId} {xs : List Value} (h : Row w g t xs) (c : Nat) (hc : xs.length ≤ c) : Sl w (some ⟨g, 0, none⟩) c xs :=
  ⟨Rd.row (ys := []) (by rw [List.append_nil]; exact h), hc, fun h => by cases h⟩
/-- Any eight integers of 32 bits are such eight words. -/
theorem st_of_ints (zs : List Int) (h : zs.length = 8) (hb : ∀ j, j < 8 → 0 ≤ zs.getD j 0 ∧ zs.getD j 0 ≤ 4294967295) : ∃ s : St, zs.map (Value.int .u32) = words s.list := by
  match zs, h with
  | [z0, z1, z2, z3, z4, z5, z6, z7], _ =>
    have b0 := hb 0 (by omega)
    have b1 := hb 1 (by omega)
    have b2 := hb 2 (by omega)
    have b3 := hb 3 (by omega)
    have b4 := hb 4 (by omega)
    have b5 := hb 5 (by omega)
    have b6 := hb 6 (by omega)
    have b7 := hb 7 (by omega)
    simp only [List.getD_cons_zero, List.getD_cons_succ] at b0 b1 b2 b3 b4 b5 b6 b7
    obtain ⟨x0, rfl⟩ := u_mk b0.1 (by omega)
    obtain ⟨x1, rfl⟩ := u_mk b1.1 (by omega)
    obtain ⟨x2, rfl⟩ := u_mk b2.1 (by omega)
    obtain ⟨x3, rfl⟩ := u_mk b3.1 (by omega)
    obtain ⟨x4, rfl⟩ := u_mk b4.1 (by omega)
    obtain ⟨x5, rfl⟩ := u_mk b5.1 (by omega)
    obtain ⟨x6, rfl⟩ := u_mk b6.1 (by omega)
    obtain ⟨x7, rfl⟩ := u_mk b7.1 (by omega)
    exact ⟨⟨x0, x1, x2, x3, x4, x5, x6, x7⟩, rfl⟩
set_option maxHeartbeats 2000000 in
theorem words_walk (s : St) (l : List UInt8) (hl : l.length = 64) (w : World) (hT : Cube w) :
    Calls Tryd.prog 3 #[.agg (words s.list).toArray, .agg (byts l).toArray] w fun e w' => e = .returned (.bool true) ∧ Below w.heap.size w w' := by
  obtain ⟨ws, hws⟩ : ∃ ws, ws = sched l 64 := ⟨_, rfl⟩
  have hlen : ws.length = 64 := by rw [hws, length_sched]
  have HWS := Lib.hid hws
  obtain ⟨cs, hcs⟩ : ∃ cs, cs = (compS l s).list := ⟨_, rfl⟩
  have hcl : cs.length = 8 := by rw [hcs]; rfl
  have HCS := Lib.hid hcs
  have hszb := Lib.hid (show (Tryd.prog.info? 24).map (·.size) = some (byts l).toArray.size by rw [size64b, List.size_toArray, length_byts, hl])
  obtain ⟨xs, hxs⟩ : ∃ xs, xs = words s.list := ⟨_, rfl⟩
  have hxl : xs.length = 8 := by rw [hxs, length_words]; rfl
  have hsz8 := Lib.hid (show (Tryd.prog.info? 23).map (·.size) = some xs.toArray.size by rw [size8, List.size_toArray, hxl])
  have HXL := Lib.hid hxl
  have HXS := Lib.hid hxs
  have hcmp := Lib.hid (show ∀ w : World, Cube w → Calls Tryd.prog 8 #[.agg xs.toArray, .agg (byts l).toArray] w fun e w' => e = .returned (.agg (words cs).toArray) ∧ Below w.heap.size w w' by
    intro w hC
    rw [hxs, hcs]
    exact compress_any l hl s w hC)
  rw [← hxs]
  clear hws hcs hxs hxl
  obtain ⟨ra, rb, hb0⟩ := rows2 w xs (byts l) 23 24
  go_enter Tryd.func3, Tryd.ntmps3
  go_wp2_with (first
    | (go_at_call 4; refine (balive_any _).mono ?_; rintro e w1 ⟨rfl, hb1⟩; have ra1 := ra.later hb1 ra.lt; have rb1 := rb.later hb1 rb.lt; have hbA := hb0.trans (hb1.mono hb0.size); clear ra rb hb0 hb1; have hslB := rb1.sl 64 (by rw [length_byts, hl]; exact Nat.le_refl _))
    | (go_at_call 5; refine (rschedule_any (w.heap.size + 1) 0 64 l hl _ hslB).mono ?_; rintro e w2 ⟨v2, rfl, hown2, hb2⟩; rw [← HWS.out, hlen] at hown2; obtain ⟨g2, cap2, rfl, _, hgl2⟩ := hown2.form (by omega)))
  have ra2 := ra1.later hb2 ra1.lt
  have rb2 := rb1.later hb2 rb1.lt
  have hbA2 := hbA.trans (hb2.mono hbA.size)
  clear ra1 rb1 hbA hb2 hslB
  go_loopw [14] (fun i wr => ∃ k : Nat, k ≤ 64 ∧ i = .int .i64 k ∧ Below w2.heap.size w2 wr) (fun i _ => 64 - (intOf i).toNat)
  case atStart => exact ⟨0, by omega, rfl, Below.refl _ _⟩
  case round =>
    obtain ⟨k, hk, rfl, hb⟩ := hrel
    by_cases hlt : k < 64
    · have c := own_cell (own_later hown2 hb (Nat.le_refl _)) k (by omega)
      have hix := index_words ws hlen k hlt
      generalize ws.getD k 0#32 = x at *
      have R1 := Lib.hid (show wr.heap[w.heap.size + 1]? = some (.cells (byts l).toArray 24 (0, 0)) from rb2.later hb rb2.lt)
      have n0 : (0 : Int) ≤ (k : Int) := by omega
      have n64 : (k : Int) < 64 := by omega
      go_wp2_with (first
        | (with_reducible refine wpList_load_row rfl 24 (.tmp 3) rfl (w.heap.size + 1) rfl 24 (byts l).toArray (0, 0) (.array 64 5) R1.out Tryd.underlying24 rfl hszb.out ?_)
        | (go_at_call 6; refine (schedule_any l hl _).mono ?_; rintro e w3 ⟨rfl, hb3⟩; rw [← HWS.out]))
      go_roundw
      case rel => exact ⟨k + 1, by omega, by go_num, below_step hb hb3⟩
      case measure => simp [intOf]; omega
    · have hslA := (ra2.later hb ra2.lt).sl 8 (by rw [HXL.out]; exact Nat.le_refl _)
      rw [HXS.out] at hslA
      have hslB := (rb2.later hb rb2.lt).sl 64 (by rw [length_byts, hl]; exact Nat.le_refl _)
      go_wp2_with fail
      refine wp_region_noPanic ?_
      refine wp_region_held_drew (S := fun w' => Below wr.heap.size wr w') (by kernel_rfl) ((Below.refl _ _).drew) (fun hHeld => ?_)
      have hAll := hHeld
      refine rtake 0 _ (some 26) _ rfl rfl (by kernel_rfl) (by kernel_rfl) (by kernel_rfl) (fun _ _ _ h => h) (by rfl) hHeld (by intro w hS; go_simp; try with_reducible rfl) ?_
      try (rw [put_some]; dsimp only [List.set])
      refine rtake 1 _ (some 27) _ rfl rfl (by kernel_rfl) (by kernel_rfl) (by kernel_rfl) (fun _ _ _ h => h) (by rfl) hHeld (by intro w hS; go_simp; try with_reducible rfl) ?_
      try (rw [put_some]; dsimp only [List.set])
      refine rtake 4 _ (some 30) _ rfl rfl (by kernel_rfl) (by kernel_rfl) (by kernel_rfl) (fun _ _ _ h => h) (by rfl) hHeld (by intro w hS; go_simp; try with_reducible rfl) ?_
      try (rw [put_some]; dsimp only [List.set])
      refine wpAnyH_ready (rs := [2]) (by kernel_rfl) (by simp) (AllReadyH.cons (o := _) rfl (fun K hK => ?_) AllReadyH.nil)
      go_simp
      refine (rcompress_any w.heap.size 0 8 (w.heap.size + 1) 0 64 s l hl _ (hslA.later (Nat.le_refl _) hHeld) (hslB.later (Nat.le_refl _) hHeld)).mono ?_; rintro e w3 ⟨v3, rfl, hown3, hb3⟩; rw [← HCS.out, hcl] at hown3; obtain ⟨g3, cap3, rfl, _, hgl3⟩ := hown3.form (by omega)
      try go_wp2_with fail
      refine hK.out _ _ (below_step hHeld hb3) (fun _ => ?_)
      clear hK K
      try (rw [put_some]; dsimp only [List.set])
      have hAll := below_step hAll hb3
      refine wpAnyH_narrow (S' := fun w' => Below w3.heap.size w3 w') (fun _ h => below_step (below_step hHeld hb3) h) _ _ _ _ ?_
      clear hHeld
      have hHeld : Below w3.heap.size w3 w3 := Below.refl _ _
      refine rtake 3 _ (some 29) _ rfl rfl (by kernel_rfl) (by kernel_rfl) (by kernel_rfl) (fun _ _ _ h => h) (by rfl) hHeld (by intro w hS; go_simp; try with_reducible rfl) ?_
      try (rw [put_some]; dsimp only [List.set])
      refine wpAnyH_done (by kernel_rfl) ?_ _
      refine NoPanic.normal ?_
      have hbw3 : Below w2.heap.size w2 w3 := below_step hb hAll
      have ra3 := ra2.later hbw3 ra2.lt
      have rb3 := rb2.later hbw3 rb2.lt
      have hbA3 := hbA2.trans (hbw3.mono hbA2.size)
      clear ra2 rb2 hbw3 hb hAll hHeld hslA hslB hbA2 hown2 hb3
      go_wp2_with fail
      go_loopw [30] (fun i wr => ∃ k : Nat, k ≤ 8 ∧ i = .int .i64 k ∧ Below w3.heap.size w3 wr) (fun i _ => 8 - (intOf i).toNat)
      case atStart => exact ⟨0, by omega, rfl, Below.refl _ _⟩
      case round =>
        obtain ⟨i, hi8, rfl, hb⟩ := hrel
        by_cases hlt8 : i < 8
        · have c := own_cell (own_later hown3 hb (Nat.le_refl _)) i (by omega)
          have hix := index_words8 cs hcl i hlt8
          generalize cs.getD i 0#32 = x at *
          have R0 := Lib.hid (show wr.heap[w.heap.size]? = some (.cells xs.toArray 23 (0, 0)) from ra3.later hb ra3.lt)
          have R1 := Lib.hid (show wr.heap[w.heap.size + 1]? = some (.cells (byts l).toArray 24 (0, 0)) from rb3.later hb rb3.lt)
          have hC := hT.later (hbA3.trans (hb.mono hbA3.size)) (Nat.le_refl _)
          have n0 : (0 : Int) ≤ (i : Int) := by omega
          have n8 : (i : Int) < 8 := by omega
          go_wp2_with (first
            | (with_reducible refine wpList_load_row rfl 23 (.tmp 2) rfl w.heap.size rfl 23 xs.toArray (0, 0) (.array 8 22) R0.out Tryd.underlying23 rfl hsz8.out ?_)
            | (with_reducible refine wpList_load_row rfl 24 (.tmp 3) rfl (w.heap.size + 1) rfl 24 (byts l).toArray (0, 0) (.array 64 5) R1.out Tryd.underlying24 rfl hszb.out ?_)
            | (go_at_call 8; refine (hcmp.out _ hC).mono ?_; rintro e w4 ⟨rfl, hb4⟩))
          go_roundw
          case rel => exact ⟨i + 1, by omega, by go_num, below_step hb hb4⟩
          case measure => simp [intOf]; omega
        · go_wp2
          go_ret
          exact ⟨rfl, hbA3.trans (hb.mono hbA3.size)⟩
end Go.Proofs.YtflapjnjmolhfaaDoor
