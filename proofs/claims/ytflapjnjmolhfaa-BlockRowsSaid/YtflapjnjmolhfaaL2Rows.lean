/- LAYER 2, BlockRows: the walk of the law. -/
import Derived.Test.YtflapjnjmolhfaaPad
import Derived.Test.YtflapjnjmolhfaaPr2
import Derived.Test.YtflapjnjmolhfaaR1
import Derived.Test.YtflapjnjmolhfaaSch
namespace Go.Proofs.Ytflapjnjmolhfaa
open Go.RowKit

@[go_sem] theorem u_sub (a b : BitVec 32) : IntKind.u32.wrap (u a - u b) = u (a - b) := by
  rw [IntKind.wrap_u32]; unfold u; rw [BitVec.toNat_sub]
  have := a.isLt
  have := b.isLt
  omega
theorem size64b : (Try.prog.info? 27).map (·.size) = some 64 := by kernel_rfl
theorem row_law (l : List UInt8) (k : Nat) (h : 16 ≤ k) (h2 : k < 64) :
    (sched l 64).getD k 0#32 - (sched l 64).getD (k - 7) 0#32 - (sched l 64).getD (k - 16) 0#32 = small 1 ((sched l 64).getD (k - 2) 0#32) + small 0 ((sched l 64).getD (k - 15) 0#32) := by
  have e : ∀ i, i < k → (sched l 64).getD i 0#32 = (sched l k).getD i 0#32 := fun i hi => by rw [sched_get l (by omega), sched_get l hi]
  rw [sched_get l h2, next_high l k h, e (k - 7) (by omega), e (k - 16) (by omega), e (k - 2) (by omega), e (k - 15) (by omega)]
  generalize small 1 ((sched l k).getD (k - 2) 0#32) = a
  generalize small 0 ((sched l k).getD (k - 15) 0#32) = b
  generalize (sched l k).getD (k - 7) 0#32 = c
  generalize (sched l k).getD (k - 16) 0#32 = d
  apply BitVec.eq_of_toNat_eq
  simp only [BitVec.toNat_sub, BitVec.toNat_add]
  have := a.isLt
  have := b.isLt
  have := c.isLt
  have := d.isLt
  omega
theorem row_new_set {w w3 : World} {old : Array Value} {t : TypeId} {xs : List Value} (h : (w.alloc (.cells old t)).setRow w.heap.size xs.toArray = w3) : Row w3 w.heap.size t xs ∧ Below w.heap.size w w3 := by
  subst h
  exact ⟨setRow_heap _ _ _ _ _ _ (heap_alloc_new w _), below_setRow ((Below.refl _ _).alloc (Nat.le_refl _) _) (Nat.le_refl _) _⟩
set_option maxHeartbeats 2000000 in
theorem rows_walk (l : List UInt8) (hl : l.length = 64) (many : BitVec 32) (w : World) :
    Calls Try.prog 4 #[.agg (byts l).toArray, .int .u32 (u many)] w fun e w' => e = .returned (.bool true) ∧ Below w.heap.size w w' := by
  obtain ⟨ws, hws⟩ : ∃ ws, ws = sched l 64 := ⟨_, rfl⟩
  have hlen : ws.length = 64 := by rw [hws, length_sched]
  have hlaw := Lib.hid (fun k h h2 => (by rw [hws]; exact row_law l k h h2 : ws.getD k 0#32 - ws.getD (k - 7) 0#32 - ws.getD (k - 16) 0#32 = small 1 (ws.getD (k - 2) 0#32) + small 0 (ws.getD (k - 15) 0#32)))
  have HWS := Lib.hid hws
  clear hws
  have hone := Lib.hid (all_one (words_one (ws)))
  have hszb := Lib.hid (show (Try.prog.info? 27).map (·.size) = some (byts l).toArray.size by rw [size64b, List.size_toArray, length_byts, hl])
  have hsz := Lib.hid (show (Try.prog.info? 29).map (·.size) = some (words ws).toArray.size by rw [size64, List.size_toArray, length_words, hlen])
  have hszo := Lib.hid (show 64 = (words ws).toArray.size by rw [List.size_toArray, length_words, hlen])
  go_enter Try.func4, Try.ntmps4
  go_wp2_with (first
    | (go_at_call 6; refine (balive_any _).mono ?_; rintro e w1 ⟨rfl, hb1⟩; have r1 := Lib.hid (show w1.heap[w.heap.size]? = some (.cells (byts l).toArray 27 (0, 0)) from (Row.new w 27 (byts l)).later hb1 (by rw [World.size_alloc]; omega)))
    | (with_reducible refine wpList_load_row rfl 27 (.tmp 2) rfl w.heap.size rfl 27 (byts l).toArray (0, 0) (.array 64 5) r1.out Try.underlying27 rfl hszb.out ?_)
    | (go_at_call 9; refine (schedule_any l hl _).mono ?_; rintro e w2 ⟨rfl, hb2⟩; rw [← HWS.out])
    | (with_reducible refine wpList_store_row rfl 29 (.tmp 5) (.tmp 11) rfl w2.heap.size (words ws).toArray rfl rfl 29 _ (heap_alloc_new w2 _) hsz.out (Eq.trans (by kernel_rfl) hszo.out) hone.out ?_))
  generalize hw3 : World.setRow (World.alloc w2 _) _ _ = w3
  obtain ⟨hr, hb3⟩ := row_new_set hw3
  clear hw3
  have hbA : Below w.heap.size w w3 := below_step (below_step (below_step ((Below.refl _ _).alloc (Nat.le_refl _) _) hb1) hb2) hb3
  clear hb1 hb2 hb3 r1
  go_loopw [6] (fun i wr => ∃ j : Nat, j ≤ 48 ∧ i = .int .i64 ((j : Int) + 16) ∧ Below w3.heap.size w3 wr) (fun i _ => 64 - (intOf i).toNat)
  case atStart => exact ⟨0, by omega, rfl, Below.refl _ _⟩
  case round =>
    obtain ⟨j, hj, rfl, hb⟩ := hrel
    by_cases hlt : j < 48
    · go_wp2_with fail
      have q2 := (hr.later hb hr.lt).drew
      have c0 := (q2.cell (j + 16)).trans (get_words ws (j + 16) (by omega))
      have c2 := (q2.cell (j + 14)).trans (get_words ws (j + 14) (by omega))
      have c7 := (q2.cell (j + 9)).trans (get_words ws (j + 9) (by omega))
      have c15 := (q2.cell (j + 1)).trans (get_words ws (j + 1) (by omega))
      have c16 := (q2.cell j).trans (get_words ws j (by omega))
      have hnx := hlaw.out (j + 16) (by omega) (by omega)
      rw [show j + 16 - 2 = j + 14 by omega, show j + 16 - 7 = j + 9 by omega, show j + 16 - 15 = j + 1 by omega, show j + 16 - 16 = j by omega] at hnx
      generalize ws.getD (j + 16) 0#32 = x0 at *
      generalize ws.getD (j + 14) 0#32 = x2 at *
      generalize ws.getD (j + 9) 0#32 = x7 at *
      generalize ws.getD (j + 1) 0#32 = x15 at *
      generalize ws.getD j 0#32 = x16 at *
      have HNX := Lib.hid hnx
      clear hnx
      have w2' : IntKind.i64.wrap ((j : Int) + 16 - 2) = (j : Int) + 14 := by rw [IntKind.wrap_i64]; omega
      have w7 : IntKind.i64.wrap ((j : Int) + 16 - 7) = (j : Int) + 9 := by rw [IntKind.wrap_i64]; omega
      have w15 : IntKind.i64.wrap ((j : Int) + 16 - 15) = (j : Int) + 1 := by rw [IntKind.wrap_i64]; omega
      have n16 : (0 : Int) ≤ (j : Int) + 16 := by omega
      have m16 : (j : Int) + 16 < 64 := by omega
      have t16 : ((j : Int) + 16).toNat = j + 16 := by omega
      have n14 : (0 : Int) ≤ (j : Int) + 14 := by omega
      have m14 : (j : Int) + 14 < 64 := by omega
      have t14 : ((j : Int) + 14).toNat = j + 14 := by omega
      have n9 : (0 : Int) ≤ (j : Int) + 9 := by omega
      have m9 : (j : Int) + 9 < 64 := by omega
      have t9 : ((j : Int) + 9).toNat = j + 9 := by omega
      have n1 : (0 : Int) ≤ (j : Int) + 1 := by omega
      have m1 : (j : Int) + 1 < 64 := by omega
      have t1 : ((j : Int) + 1).toNat = j + 1 := by omega
      have m0 : (j : Int) < 64 := by omega
      have w0 : IntKind.i64.wrap (j : Int) = (j : Int) := by rw [IntKind.wrap_i64]; omega
      clear q2
      have hbd := hb.drew
      refine wp_region_noPanic ?_
      refine wp_region_held_drew (S := fun w' => w' = wr.drew) (by kernel_rfl) (rfl) (fun _ => ?_)
      refine rtake 0 _ (some 16) _ rfl rfl (by kernel_rfl) (by kernel_rfl) (by kernel_rfl) (fun _ _ _ h => h) (by rfl) rfl (by intro w hS; subst hS; go_simp; try with_reducible rfl) ?_
      try (rw [put_some]; dsimp only [List.set])
      refine rtake 3 _ (some 19) _ rfl rfl (by kernel_rfl) (by kernel_rfl) (by kernel_rfl) (fun _ _ _ h => h) (by rfl) rfl (by intro w hS; subst hS; go_simp; try with_reducible rfl) ?_
      try (rw [put_some]; dsimp only [List.set])
      refine rtake 8 _ (some 24) _ rfl rfl (by kernel_rfl) (by kernel_rfl) (by kernel_rfl) (fun _ _ _ h => h) (by rfl) rfl (by intro w hS; subst hS; go_simp; try with_reducible rfl) ?_
      try (rw [put_some]; dsimp only [List.set])
      refine rtake 13 _ (some 29) _ rfl rfl (by kernel_rfl) (by kernel_rfl) (by kernel_rfl) (fun _ _ _ h => h) (by rfl) rfl (by intro w hS; subst hS; go_simp; try with_reducible rfl) ?_
      try (rw [put_some]; dsimp only [List.set])
      refine rtake 18 _ (some 34) _ rfl rfl (by kernel_rfl) (by kernel_rfl) (by kernel_rfl) (fun _ _ _ h => h) (by rfl) rfl (by intro w hS; subst hS; go_simp; try with_reducible rfl) ?_
      try (rw [put_some]; dsimp only [List.set])
      refine rtake 1 _ (some 17) _ rfl rfl (by kernel_rfl) (by kernel_rfl) (by kernel_rfl) (fun _ _ _ h => h) (by rfl) rfl (by intro w hS; subst hS; go_simp; try with_reducible rfl) ?_
      try (rw [put_some]; dsimp only [List.set])
      refine rtake 4 _ (some 20) _ rfl rfl (by kernel_rfl) (by kernel_rfl) (by kernel_rfl) (fun _ _ _ h => h) (by rfl) rfl (by intro w hS; subst hS; go_simp; try with_reducible rfl) ?_
      try (rw [put_some]; dsimp only [List.set])
      refine rtake 9 _ (some 25) _ rfl rfl (by kernel_rfl) (by kernel_rfl) (by kernel_rfl) (fun _ _ _ h => h) (by rfl) rfl (by intro w hS; subst hS; go_simp; try with_reducible rfl) ?_
      try (rw [put_some]; dsimp only [List.set])
      refine rtake 14 _ (some 30) _ rfl rfl (by kernel_rfl) (by kernel_rfl) (by kernel_rfl) (fun _ _ _ h => h) (by rfl) rfl (by intro w hS; subst hS; go_simp; try with_reducible rfl) ?_
      try (rw [put_some]; dsimp only [List.set])
      refine rtake 19 _ (some 35) _ rfl rfl (by kernel_rfl) (by kernel_rfl) (by kernel_rfl) (fun _ _ _ h => h) (by rfl) rfl (by intro w hS; subst hS; go_simp; try with_reducible rfl) ?_
      try (rw [put_some]; dsimp only [List.set])
      refine rtake 5 _ (some 21) _ rfl rfl (by kernel_rfl) (by kernel_rfl) (by kernel_rfl) (fun _ _ _ h => h) (by rfl) rfl (by intro w hS; subst hS; go_simp; try with_reducible rfl) ?_
      try (rw [put_some]; dsimp only [List.set])
      refine rtake 10 _ (some 26) _ rfl rfl (by kernel_rfl) (by kernel_rfl) (by kernel_rfl) (fun _ _ _ h => h) (by rfl) rfl (by intro w hS; subst hS; go_simp; try with_reducible rfl) ?_
      try (rw [put_some]; dsimp only [List.set])
      refine rtake 15 _ (some 31) _ rfl rfl (by kernel_rfl) (by kernel_rfl) (by kernel_rfl) (fun _ _ _ h => h) (by rfl) rfl (by intro w hS; subst hS; go_simp; try with_reducible rfl) ?_
      try (rw [put_some]; dsimp only [List.set])
      refine rtake 20 _ (some 36) _ rfl rfl (by kernel_rfl) (by kernel_rfl) (by kernel_rfl) (fun _ _ _ h => h) (by rfl) rfl (by intro w hS; subst hS; go_simp; try with_reducible rfl) ?_
      try (rw [put_some]; dsimp only [List.set])
      refine rtake 2 _ (some 18) _ rfl rfl (by kernel_rfl) (by kernel_rfl) (by kernel_rfl) (fun _ _ _ h => h) (by rfl) rfl (by intro w hS; subst hS; go_simp; try with_reducible rfl) ?_
      try (rw [put_some]; dsimp only [List.set])
      refine rtake 6 _ (some 22) _ rfl rfl (by kernel_rfl) (by kernel_rfl) (by kernel_rfl) (fun _ _ _ h => h) (by rfl) rfl (by intro w hS; subst hS; go_simp; try with_reducible rfl) ?_
      try (rw [put_some]; dsimp only [List.set])
      refine rtake 11 _ (some 27) _ rfl rfl (by kernel_rfl) (by kernel_rfl) (by kernel_rfl) (fun _ _ _ h => h) (by rfl) rfl (by intro w hS; subst hS; go_simp; try with_reducible rfl) ?_
      try (rw [put_some]; dsimp only [List.set])
      refine rtake 16 _ (some 32) _ rfl rfl (by kernel_rfl) (by kernel_rfl) (by kernel_rfl) (fun _ _ _ h => h) (by rfl) rfl (by intro w hS; subst hS; go_simp; try with_reducible rfl) ?_
      try (rw [put_some]; dsimp only [List.set])
      refine rtake 21 _ (some 37) _ rfl rfl (by kernel_rfl) (by kernel_rfl) (by kernel_rfl) (fun _ _ _ h => h) (by rfl) rfl (by intro w hS; subst hS; go_simp; try with_reducible rfl) ?_
      try (rw [put_some]; dsimp only [List.set])
      refine rtake 7 _ (some 23) _ rfl rfl (by kernel_rfl) (by kernel_rfl) (by kernel_rfl) (fun _ _ _ h => h) (by rfl) rfl (by intro w hS; subst hS; go_simp; try with_reducible rfl) ?_
      try (rw [put_some]; dsimp only [List.set])
      refine rtake 12 _ (some 28) _ rfl rfl (by kernel_rfl) (by kernel_rfl) (by kernel_rfl) (fun _ _ _ h => h) (by rfl) rfl (by intro w hS; subst hS; go_simp; try with_reducible rfl) ?_
      try (rw [put_some]; dsimp only [List.set])
      refine wpAnyH_ready (rs := [17]) (by kernel_rfl) (by simp) (AllReadyH.cons (o := _) rfl (fun K hK => ?_) AllReadyH.nil)
      go_simp
      refine (rsmall_any _ _ _).mono ?_; rintro e w' ⟨rfl, rfl⟩
      try go_wp2_with fail
      refine hK.out _ _ rfl (fun _ => ?_)
      clear hK K
      try (rw [put_some]; dsimp only [List.set])
      refine wpAnyH_ready (rs := [22]) (by kernel_rfl) (by simp) (AllReadyH.cons (o := _) rfl (fun K hK => ?_) AllReadyH.nil)
      go_simp
      refine (rsmall_any _ _ _).mono ?_; rintro e w' ⟨rfl, rfl⟩
      try go_wp2_with fail
      refine hK.out _ _ rfl (fun _ => ?_)
      clear hK K
      try (rw [put_some]; dsimp only [List.set])
      refine rtake 23 _ (some 39) _ rfl rfl (by kernel_rfl) (by kernel_rfl) (by kernel_rfl) (fun _ _ _ h => h) (by rfl) rfl (by intro w hS; subst hS; go_simp; try with_reducible rfl) ?_
      try (rw [put_some]; dsimp only [List.set])
      refine rtake 24 _ (some 40) _ rfl rfl (by kernel_rfl) (by kernel_rfl) (by kernel_rfl) (fun _ _ _ h => h) (by rfl) rfl (by intro w hS; subst hS; go_simp; try with_reducible rfl) ?_
      try (rw [put_some]; dsimp only [List.set])
      refine wpAnyH_done (by kernel_rfl) ?_ _
      refine NoPanic.normal ?_
      rw [HNX.out]
      clear c0 c2 c7 c15 c16 w2' w7 w15 n14 m14 t14 n9 m9 t9 n1 m1 t1 n16 m16 t16 m0 w0 hb
      go_wp2
      go_roundw
      case rel => exact ⟨j + 1, by omega, by go_num, hbd⟩
      case measure => simp [intOf]; omega
    · obtain rfl : j = 48 := by omega
      have hm := u_bd many
      have hpl := length_padL many.toNat
      have hpn := noughts_lt many.toNat
      have hpm : (many.toNat + (padL many.toNat).length) % 64 = 0 := by rw [hpl]; unfold noughts; omega
      have hp9 : 9 ≤ (padL many.toNat).length := by omega
      have hp72 : (padL many.toNat).length ≤ 72 := by omega
      clear hpl hpn
      have hwb := hr.lt
      have hpa := fun w => pad_any many.toNat w
      generalize padL many.toNat = pl at *
      have hpi : (u many + (pl.length : Int)) % 64 = 0 := by unfold u; omega
      clear hpm hr hone hszb hsz hszo hlaw HWS
      go_wp2_with (first
        | (go_at_call 7; refine (hpa _).mono ?_; rintro e w4 ⟨v4, rfl, hown4, hb4⟩; obtain ⟨A4, c4, rfl, _, _⟩ := Sl.of_own hown4; clear hown4)
        | (go_at_call 11; refine (rprimes_any _).mono ?_; rintro e w5 ⟨rfl, _, hb5⟩))
      go_ret
      exact ⟨rfl, below_step (below_step (below_step hbA hb) hb4) hb5⟩
end Go.Proofs.Ytflapjnjmolhfaa
