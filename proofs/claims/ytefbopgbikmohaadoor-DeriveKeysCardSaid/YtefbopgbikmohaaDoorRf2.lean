/- LAYER 2: the document's schedule. -/
import Derived.Test.YtefbopgbikmohaaDoorSch
import Derived.Test.YtefbopgbikmohaaDoorPr2
import Derived.Test.YtefbopgbikmohaaDoorZ
import Derived.StillTailTactics
namespace Go.Proofs.YtefbopgbikmohaaDoor
open Go.RowKit

theorem turn_two (x : BitVec 32) (n : Nat) (h : n < 32) : x >>> n ||| x <<< (32 - n) = turn x (n : Int) := by
  unfold turn
  rw [BitVec.rotateRight_def, show ((n : Int) % 32).toNat = n by omega, Nat.mod_eq_of_lt h]
theorem rturn2_any (x : BitVec 32) (n : Int) (w : World) (h0 : 0 ≤ n) (h1 : n < 32) :
    Calls Tryd.prog 37 #[.int .u32 (u x), .int .u64 n] w fun e w' => e = .returned (.int .u32 (u (turn x n))) ∧ w = w' := by
  obtain ⟨n, rfl⟩ := Int.eq_ofNat_of_zero_le h0
  have hn : IntKind.u64.wrap (32 - (n : Int)) = ((32 - n : Nat) : Int) := by rw [IntKind.wrap_u64]; omega
  have H := Lib.hid (turn_two x n (by omega))
  go_enter Tryd.func37, Tryd.ntmps37
  go_wp2
  go_ret
  refine ⟨?_, rfl⟩
  rw [← H.out]
  rfl
/-- The call gave a slice of its own that holds just these words; what was there before is as it was. -/
def GaveWords (xs : List (BitVec 32)) (w : World) (e : Ending) (w' : World) : Prop :=
  ∃ v, e = .returned v ∧ w'.ownsRow w.heap.size 40 1 v xs.length (words xs) ∧ Below w.heap.size w w'
theorem infoWord : (Tryd.prog.info? 40).map (fun i => (i.zero, i.size, i.bytes)) = some (some (.int .u32 0), 1, 4) := by kernel_rfl
theorem rget_at (A : Option Addr) (n c : Nat) (l : List UInt8) (w : World) (hl : Sl w A c (byts l)) (hn : n = l.length) :
    Calls Tryd.prog 44 #[.slice A n c] w fun e w' => e = .returned (.int .u32 (getV l)) ∧ w = w' := by
  subst hn; exact rget_any A c l w hl
theorem own_cell {w : World} {base t g n cap : Nat} {xs : List (BitVec 32)} (h : w.ownsRow base t 1 (.slice (some ⟨g, 0, none⟩) n cap) n (words xs)) (i : Nat) (hi : i < xs.length) :
    w.cell? ⟨g, i, none⟩ = some (.int .u32 (u (xs.getD i 0#32))) := by
  obtain ⟨ys, hr⟩ := Row.of_own h
  rw [hr.cell, List.getElem?_append_left (by rw [length_words]; exact hi), get_words _ _ hi]
@[go_sem] theorem u_quo10 (x : BitVec 32) : IntKind.u32.wrap ((u x).tdiv 1024) = u (x >>> 10) := by
  rw [IntWalk.u32_quo _ _ ⟨(u_bd x).1, by have := u_bd x; omega, by decide⟩, u_shr10]
@[go_sem] theorem u_quo3 (x : BitVec 32) : IntKind.u32.wrap ((u x).tdiv 8) = u (x >>> 3) := by
  rw [IntWalk.u32_quo _ _ ⟨(u_bd x).1, by have := u_bd x; omega, by decide⟩, u_shr3]
theorem small_one (x : BitVec 32) : turn x 17 ^^^ turn x 19 ^^^ x >>> 10 = small 1 x := by unfold small; rw [if_neg (by decide), if_pos rfl]
theorem small_nil (x : BitVec 32) : turn x 7 ^^^ turn x 18 ^^^ x >>> 3 = small 0 x := by unfold small; rw [if_pos rfl]
set_option maxHeartbeats 2000000 in
theorem rschedule_any (b o c : Nat) (l : List UInt8) (hl : l.length = 64) (w : World) (hsl : Sl w (some ⟨b, o, none⟩) c (byts l)) :
    Calls Tryd.prog 35 #[.slice (some ⟨b, o, none⟩) 64 c] w (GaveWords (sched l 64) w) := by
  obtain ⟨i0, hi, hz0, hz1, hz2⟩ := info_parts infoWord
  have hroom : 64 ≤ c := by have := hsl.room; rw [length_byts, hl] at this; exact this
  have hown0 : (w.alloc (.cells #[] 40)).ownsRow w.heap.size 40 1 (.slice (some ⟨w.heap.size, 0, none⟩) 0 0) 0 (words (sched l 0)) := World.ownsRow_lit w #[] 0 (Nat.le_refl _) (by unfold maxLen; omega) rfl
  have hbel0 : Below w.heap.size w (w.alloc (.cells #[] 40)) := (Below.refl _ _).alloc (Nat.le_refl _) _
  go_enter Tryd.func35, Tryd.ntmps35
  go_wp2_with fail
  go_loopw [3, 4] (fun v i wr => ∃ k : Nat, k ≤ 16 ∧ i = .int .i64 k ∧ wr.ownsRow w.heap.size 40 1 v k (words (sched l k)) ∧ Below w.heap.size w wr) (fun _ i _ => 16 - (intOf i).toNat)
  case atStart => exact ⟨0, by omega, rfl, hown0, hbel0⟩
  case round =>
    clear hown0 hbel0
    obtain ⟨k, hk, rfl, hown, hb⟩ := hrel
    by_cases hlt : k < 16
    · have hI1 : (0 : Int) ≤ 4 * (k : Int) := by omega
      have hI2 : 4 * (k : Int) ≤ 64 := by omega
      have hI4 : 4 * (k : Int) ≤ (c : Int) := by omega
      have hI3 : ¬ (c = 4 * k) := by omega
      have hI5 : ((4 * (k : Int)).toNat) = 4 * k := by omega
      have hsk : Sl wr (some ⟨b, o + 4 * k, none⟩) (c - 4 * k) (byts (l.drop (4 * k))) := by
        have h1 := (hsl.later (Nat.le_refl _) hb).cut (k := 4 * k) (by rw [length_byts]; omega)
        rw [show (byts l).drop (4 * k) = byts (l.drop (4 * k)) from by unfold byts; rw [List.map_drop]] at h1
        exact h1
      have hln := Lib.hid (show 64 - 4 * k = (l.drop (4 * k)).length by rw [List.length_drop, hl])
      have hlo := Lib.hid (next_low l k hlt)
      have hd1 : k + 1 ≤ maxLen := by unfold maxLen; omega
      have hd2 : (k + 1) * 4 ≤ 140737488355328 := by omega
      have hbs := hb.size
      have hbe := hb.alloc hbs (.cells #[Value.int .u32 (u (nextW l (sched l k)))] 40)
      have howna := hown.alloc (.cells #[Value.int .u32 (u (nextW l (sched l k)))] 40)
      have hlt' := fun j hj => (hown.lt j hj).1
      clear hown hb
      go_wp2_with (first
        | (go_at_call 44; refine (rget_at _ _ _ (l.drop (4 * k)) _ hsk hln.out).mono ?_; rintro e w' ⟨rfl, rfl⟩; rw [← u_getW, ← hlo.out])
        | (at_builtin; refine wpList_append_own _ rfl (.tmp 13) (.tmp 19) 56 rfl w.heap.size 40 i0 _ 1 4 Tryd.underlying56 hi hz0 hz1 hz2 rfl (by omega) _ k (words (sched l k)) rfl howna ⟨wr.heap.size, 0, none⟩ 1 1 (words [nextW l (sched l k)]) rfl rfl (cells_new _ _ _) (words_one _) hd1 hd2 (by rw [World.size_alloc]; omega) ?_; intro v3 w3 hown3 hg3 _; have hb3 : Below w.heap.size w w3 := hbe.grown hg3 (by rw [World.size_alloc]; omega) hlt'))
      go_roundw
      case rel =>
        refine ⟨k + 1, by omega, by go_num, ?_, hb3⟩
        rw [sched, words_append]; exact hown3
      case measure => simp [intOf]; omega
    · have e16 : k = 16 := by omega
      rw [e16] at hown
      clear e16
      go_wp2_with fail
      go_loopw [3, 5] (fun v i wr => ∃ j : Nat, j ≤ 48 ∧ i = .int .i64 ((j : Int) + 16) ∧ wr.ownsRow w.heap.size 40 1 v (j + 16) (words (sched l (j + 16))) ∧ Below w.heap.size w wr) (fun _ i _ => 64 - (intOf i).toNat)
      case atStart => exact ⟨0, by omega, rfl, hown, hb⟩
      case round =>
        clear hown hb
        obtain ⟨j, hj, rfl, hown, hb⟩ := hrel
        by_cases hlt : j < 48
        · obtain ⟨g, cap, rfl, _, hgl⟩ := hown.form (by omega)
          go_wp2_with fail
          have hk6 := length_sched l (j + 16)
          have c2 := own_cell hown (j + 14) (by omega)
          have c7 := own_cell hown (j + 9) (by omega)
          have c15 := own_cell hown (j + 1) (by omega)
          have c16 := own_cell hown j (by omega)
          have hnx := next_high l (j + 16) (by omega)
          rw [show j + 16 - 2 = j + 14 by omega, show j + 16 - 7 = j + 9 by omega, show j + 16 - 15 = j + 1 by omega, show j + 16 - 16 = j by omega] at hnx
          generalize (sched l (j + 16)).getD (j + 14) 0#32 = x2 at *
          generalize (sched l (j + 16)).getD (j + 9) 0#32 = x7 at *
          generalize (sched l (j + 16)).getD (j + 1) 0#32 = x15 at *
          generalize (sched l (j + 16)).getD j 0#32 = x16 at *
          have HNX := Lib.hid hnx
          have HK6 := Lib.hid hk6
          clear hnx hk6
          have w2 : IntKind.i64.wrap ((j : Int) + 16 - 2) = (j : Int) + 14 := by rw [IntKind.wrap_i64]; omega
          have w7 : IntKind.i64.wrap ((j : Int) + 16 - 7) = (j : Int) + 9 := by rw [IntKind.wrap_i64]; omega
          have w15 : IntKind.i64.wrap ((j : Int) + 16 - 15) = (j : Int) + 1 := by rw [IntKind.wrap_i64]; omega
          have n14 : (0 : Int) ≤ (j : Int) + 14 := by omega
          have m14 : (j : Int) + 14 < (j : Int) + 16 := by omega
          have t14 : ((j : Int) + 14).toNat = j + 14 := by omega
          have n9 : (0 : Int) ≤ (j : Int) + 9 := by omega
          have m9 : (j : Int) + 9 < (j : Int) + 16 := by omega
          have t9 : ((j : Int) + 9).toNat = j + 9 := by omega
          have n1 : (0 : Int) ≤ (j : Int) + 1 := by omega
          have m1 : (j : Int) + 1 < (j : Int) + 16 := by omega
          have t1 : ((j : Int) + 1).toNat = j + 1 := by omega
          have m0 : (j : Int) < (j : Int) + 16 := by omega
          have w0 : IntKind.i64.wrap (j : Int) = (j : Int) := by rw [IntKind.wrap_i64]; omega
          refine wp_region_noPanic ?_
          refine wp_region_held_drew (S := fun w' => w' = wr.drew) (by kernel_rfl) (rfl) (fun hHeld => ?_)
          refine rtake 0 _ (some 25) _ rfl rfl (by kernel_rfl) (by kernel_rfl) (by kernel_rfl) (fun _ _ _ h => h) (by rfl) rfl (by intro w hS; subst hS; go_simp; try with_reducible rfl) ?_
          try (rw [put_some]; dsimp only [List.set])
          refine rtake 1 _ (some 26) _ rfl rfl (by kernel_rfl) (by kernel_rfl) (by kernel_rfl) (fun _ _ _ h => h) (by rfl) rfl (by intro w hS; subst hS; go_simp; try with_reducible rfl) ?_
          try (rw [put_some]; dsimp only [List.set])
          refine rtake 6 _ (some 31) _ rfl rfl (by kernel_rfl) (by kernel_rfl) (by kernel_rfl) (fun _ _ _ h => h) (by rfl) rfl (by intro w hS; subst hS; go_simp; try with_reducible rfl) ?_
          try (rw [put_some]; dsimp only [List.set])
          refine rtake 7 _ (some 32) _ rfl rfl (by kernel_rfl) (by kernel_rfl) (by kernel_rfl) (fun _ _ _ h => h) (by rfl) rfl (by intro w hS; subst hS; go_simp; try with_reducible rfl) ?_
          try (rw [put_some]; dsimp only [List.set])
          refine rtake 13 _ (some 38) _ rfl rfl (by kernel_rfl) (by kernel_rfl) (by kernel_rfl) (fun _ _ _ h => h) (by rfl) rfl (by intro w hS; subst hS; go_simp; try with_reducible rfl) ?_
          try (rw [put_some]; dsimp only [List.set])
          refine rtake 14 _ (some 39) _ rfl rfl (by kernel_rfl) (by kernel_rfl) (by kernel_rfl) (fun _ _ _ h => h) (by rfl) rfl (by intro w hS; subst hS; go_simp; try with_reducible rfl) ?_
          try (rw [put_some]; dsimp only [List.set])
          refine rtake 2 _ (some 27) _ rfl rfl (by kernel_rfl) (by kernel_rfl) (by kernel_rfl) (fun _ _ _ h => h) (by rfl) rfl (by intro w hS; subst hS; go_simp; try with_reducible rfl) ?_
          try (rw [put_some]; dsimp only [List.set])
          refine rtake 8 _ (some 33) _ rfl rfl (by kernel_rfl) (by kernel_rfl) (by kernel_rfl) (fun _ _ _ h => h) (by rfl) rfl (by intro w hS; subst hS; go_simp; try with_reducible rfl) ?_
          try (rw [put_some]; dsimp only [List.set])
          refine rtake 15 _ (some 40) _ rfl rfl (by kernel_rfl) (by kernel_rfl) (by kernel_rfl) (fun _ _ _ h => h) (by rfl) rfl (by intro w hS; subst hS; go_simp; try with_reducible rfl) ?_
          try (rw [put_some]; dsimp only [List.set])
          refine rtake 3 _ (some 28) _ rfl rfl (by kernel_rfl) (by kernel_rfl) (by kernel_rfl) (fun _ _ _ h => h) (by rfl) rfl (by intro w hS; subst hS; go_simp; try with_reducible rfl) ?_
          try (rw [put_some]; dsimp only [List.set])
          refine rtake 9 _ (some 34) _ rfl rfl (by kernel_rfl) (by kernel_rfl) (by kernel_rfl) (fun _ _ _ h => h) (by rfl) rfl (by intro w hS; subst hS; go_simp; try with_reducible rfl) ?_
          try (rw [put_some]; dsimp only [List.set])
          refine rtake 16 _ (some 41) _ rfl rfl (by kernel_rfl) (by kernel_rfl) (by kernel_rfl) (fun _ _ _ h => h) (by rfl) rfl (by intro w hS; subst hS; go_simp; try with_reducible rfl) ?_
          try (rw [put_some]; dsimp only [List.set])
          refine rtake 4 _ (some 29) _ rfl rfl (by kernel_rfl) (by kernel_rfl) (by kernel_rfl) (fun _ _ _ h => h) (by rfl) rfl (by intro w hS; subst hS; go_simp; try with_reducible rfl) ?_
          try (rw [put_some]; dsimp only [List.set])
          refine rtake 10 _ (some 35) _ rfl rfl (by kernel_rfl) (by kernel_rfl) (by kernel_rfl) (fun _ _ _ h => h) (by rfl) rfl (by intro w hS; subst hS; go_simp; try with_reducible rfl) ?_
          try (rw [put_some]; dsimp only [List.set])
          refine rtake 17 _ (some 42) _ rfl rfl (by kernel_rfl) (by kernel_rfl) (by kernel_rfl) (fun _ _ _ h => h) (by rfl) rfl (by intro w hS; subst hS; go_simp; try with_reducible rfl) ?_
          try (rw [put_some]; dsimp only [List.set])
          refine rtake 18 _ (some 43) _ rfl rfl (by kernel_rfl) (by kernel_rfl) (by kernel_rfl) (fun _ _ _ h => h) (by rfl) rfl (by intro w hS; subst hS; go_simp; try with_reducible rfl) ?_
          try (rw [put_some]; dsimp only [List.set])
          refine wpAnyH_ready (rs := [5]) (by kernel_rfl) (by simp) (AllReadyH.cons (o := _) rfl (fun K hK => ?_) AllReadyH.nil)
          go_simp
          refine (rturn2_any _ 17 _ (by decide) (by decide)).mono ?_; rintro e w' ⟨rfl, rfl⟩
          try go_wp2_with fail
          refine hK.out _ _ rfl (fun _ => ?_)
          clear hK K
          try (rw [put_some]; dsimp only [List.set])
          refine wpAnyH_ready (rs := [11]) (by kernel_rfl) (by simp) (AllReadyH.cons (o := _) rfl (fun K hK => ?_) AllReadyH.nil)
          go_simp
          refine (rturn2_any _ 19 _ (by decide) (by decide)).mono ?_; rintro e w' ⟨rfl, rfl⟩
          try go_wp2_with fail
          refine hK.out _ _ rfl (fun _ => ?_)
          clear hK K
          try (rw [put_some]; dsimp only [List.set])
          refine rtake 12 _ (some 37) _ rfl rfl (by kernel_rfl) (by kernel_rfl) (by kernel_rfl) (fun _ _ _ h => h) (by rfl) rfl (by intro w hS; subst hS; go_simp; try with_reducible rfl) ?_
          try (rw [put_some]; dsimp only [List.set])
          refine rtake 19 _ (some 44) _ rfl rfl (by kernel_rfl) (by kernel_rfl) (by kernel_rfl) (fun _ _ _ h => h) (by rfl) rfl (by intro w hS; subst hS; go_simp; try with_reducible rfl) ?_
          try (rw [put_some]; dsimp only [List.set])
          refine rtake 20 _ (some 6) _ rfl rfl (by kernel_rfl) (by kernel_rfl) (by kernel_rfl) (fun _ _ _ h => h) (by rfl) rfl (by intro w hS; subst hS; go_simp; try with_reducible rfl) ?_
          try (rw [put_some]; dsimp only [List.set])
          refine wpAnyH_done (by kernel_rfl) ?_ _
          refine NoPanic.normal ?_
          rw [small_one]
          go_wp2_with fail
          refine wp_region_noPanic ?_
          refine wp_region_held_drew (S := fun w' => w' = wr.drew.drew) (by kernel_rfl) (rfl) (fun hHeld => ?_)
          refine rtake 0 _ (some 45) _ rfl rfl (by kernel_rfl) (by kernel_rfl) (by kernel_rfl) (fun _ _ _ h => h) (by rfl) rfl (by intro w hS; subst hS; go_simp; try with_reducible rfl) ?_
          try (rw [put_some]; dsimp only [List.set])
          refine rtake 1 _ (some 46) _ rfl rfl (by kernel_rfl) (by kernel_rfl) (by kernel_rfl) (fun _ _ _ h => h) (by rfl) rfl (by intro w hS; subst hS; go_simp; try with_reducible rfl) ?_
          try (rw [put_some]; dsimp only [List.set])
          refine rtake 6 _ (some 51) _ rfl rfl (by kernel_rfl) (by kernel_rfl) (by kernel_rfl) (fun _ _ _ h => h) (by rfl) rfl (by intro w hS; subst hS; go_simp; try with_reducible rfl) ?_
          try (rw [put_some]; dsimp only [List.set])
          refine rtake 7 _ (some 52) _ rfl rfl (by kernel_rfl) (by kernel_rfl) (by kernel_rfl) (fun _ _ _ h => h) (by rfl) rfl (by intro w hS; subst hS; go_simp; try with_reducible rfl) ?_
          try (rw [put_some]; dsimp only [List.set])
          refine rtake 13 _ (some 58) _ rfl rfl (by kernel_rfl) (by kernel_rfl) (by kernel_rfl) (fun _ _ _ h => h) (by rfl) rfl (by intro w hS; subst hS; go_simp; try with_reducible rfl) ?_
          try (rw [put_some]; dsimp only [List.set])
          refine rtake 14 _ (some 59) _ rfl rfl (by kernel_rfl) (by kernel_rfl) (by kernel_rfl) (fun _ _ _ h => h) (by rfl) rfl (by intro w hS; subst hS; go_simp; try with_reducible rfl) ?_
          try (rw [put_some]; dsimp only [List.set])
          refine rtake 2 _ (some 47) _ rfl rfl (by kernel_rfl) (by kernel_rfl) (by kernel_rfl) (fun _ _ _ h => h) (by rfl) rfl (by intro w hS; subst hS; go_simp; try with_reducible rfl) ?_
          try (rw [put_some]; dsimp only [List.set])
          refine rtake 8 _ (some 53) _ rfl rfl (by kernel_rfl) (by kernel_rfl) (by kernel_rfl) (fun _ _ _ h => h) (by rfl) rfl (by intro w hS; subst hS; go_simp; try with_reducible rfl) ?_
          try (rw [put_some]; dsimp only [List.set])
          refine rtake 15 _ (some 60) _ rfl rfl (by kernel_rfl) (by kernel_rfl) (by kernel_rfl) (fun _ _ _ h => h) (by rfl) rfl (by intro w hS; subst hS; go_simp; try with_reducible rfl) ?_
          try (rw [put_some]; dsimp only [List.set])
          refine rtake 3 _ (some 48) _ rfl rfl (by kernel_rfl) (by kernel_rfl) (by kernel_rfl) (fun _ _ _ h => h) (by rfl) rfl (by intro w hS; subst hS; go_simp; try with_reducible rfl) ?_
          try (rw [put_some]; dsimp only [List.set])
          refine rtake 9 _ (some 54) _ rfl rfl (by kernel_rfl) (by kernel_rfl) (by kernel_rfl) (fun _ _ _ h => h) (by rfl) rfl (by intro w hS; subst hS; go_simp; try with_reducible rfl) ?_
          try (rw [put_some]; dsimp only [List.set])
          refine rtake 16 _ (some 61) _ rfl rfl (by kernel_rfl) (by kernel_rfl) (by kernel_rfl) (fun _ _ _ h => h) (by rfl) rfl (by intro w hS; subst hS; go_simp; try with_reducible rfl) ?_
          try (rw [put_some]; dsimp only [List.set])
          refine rtake 4 _ (some 49) _ rfl rfl (by kernel_rfl) (by kernel_rfl) (by kernel_rfl) (fun _ _ _ h => h) (by rfl) rfl (by intro w hS; subst hS; go_simp; try with_reducible rfl) ?_
          try (rw [put_some]; dsimp only [List.set])
          refine rtake 10 _ (some 55) _ rfl rfl (by kernel_rfl) (by kernel_rfl) (by kernel_rfl) (fun _ _ _ h => h) (by rfl) rfl (by intro w hS; subst hS; go_simp; try with_reducible rfl) ?_
          try (rw [put_some]; dsimp only [List.set])
          refine rtake 17 _ (some 62) _ rfl rfl (by kernel_rfl) (by kernel_rfl) (by kernel_rfl) (fun _ _ _ h => h) (by rfl) rfl (by intro w hS; subst hS; go_simp; try with_reducible rfl) ?_
          try (rw [put_some]; dsimp only [List.set])
          refine rtake 18 _ (some 63) _ rfl rfl (by kernel_rfl) (by kernel_rfl) (by kernel_rfl) (fun _ _ _ h => h) (by rfl) rfl (by intro w hS; subst hS; go_simp; try with_reducible rfl) ?_
          try (rw [put_some]; dsimp only [List.set])
          refine wpAnyH_ready (rs := [5]) (by kernel_rfl) (by simp) (AllReadyH.cons (o := _) rfl (fun K hK => ?_) AllReadyH.nil)
          go_simp
          refine (rturn2_any _ 7 _ (by decide) (by decide)).mono ?_; rintro e w' ⟨rfl, rfl⟩
          try go_wp2_with fail
          refine hK.out _ _ rfl (fun _ => ?_)
          clear hK K
          try (rw [put_some]; dsimp only [List.set])
          refine wpAnyH_ready (rs := [11]) (by kernel_rfl) (by simp) (AllReadyH.cons (o := _) rfl (fun K hK => ?_) AllReadyH.nil)
          go_simp
          refine (rturn2_any _ 18 _ (by decide) (by decide)).mono ?_; rintro e w' ⟨rfl, rfl⟩
          try go_wp2_with fail
          refine hK.out _ _ rfl (fun _ => ?_)
          clear hK K
          try (rw [put_some]; dsimp only [List.set])
          refine rtake 12 _ (some 57) _ rfl rfl (by kernel_rfl) (by kernel_rfl) (by kernel_rfl) (fun _ _ _ h => h) (by rfl) rfl (by intro w hS; subst hS; go_simp; try with_reducible rfl) ?_
          try (rw [put_some]; dsimp only [List.set])
          refine rtake 19 _ (some 64) _ rfl rfl (by kernel_rfl) (by kernel_rfl) (by kernel_rfl) (fun _ _ _ h => h) (by rfl) rfl (by intro w hS; subst hS; go_simp; try with_reducible rfl) ?_
          try (rw [put_some]; dsimp only [List.set])
          refine rtake 20 _ (some 7) _ rfl rfl (by kernel_rfl) (by kernel_rfl) (by kernel_rfl) (fun _ _ _ h => h) (by rfl) rfl (by intro w hS; subst hS; go_simp; try with_reducible rfl) ?_
          try (rw [put_some]; dsimp only [List.set])
          refine wpAnyH_done (by kernel_rfl) ?_ _
          refine NoPanic.normal ?_
          rw [small_nil]
          go_wp2_with fail
          have hownd : wr.drew.drew.drew.ownsRow w.heap.size 40 1 (.slice (some ⟨g, 0, none⟩) (j + 16) cap) (j + 16) (words (sched l (j + 16))) := hown
          have hbd : Below w.heap.size w wr.drew.drew.drew := hb.drew.drew.drew
          have hd1 : j + 16 + 1 ≤ maxLen := by unfold maxLen; omega
          have hd2 : (j + 16 + 1) * 4 ≤ 140737488355328 := by omega
          have hd3 : w.heap.size ≤ (wr.drew.drew.drew.alloc (.cells #[Value.int .u32 (u (small 1 x2 + x7 + small 0 x15 + x16))] 40)).heap.size := by rw [World.size_alloc]; have := hbd.size; omega
          refine wp_region_noPanic ?_
          refine wp_region_held_drew (S := fun w' => w'.cell? ⟨g, j + 9, none⟩ = some (.int .u32 (u x7)) ∧ w'.cell? ⟨g, j, none⟩ = some (.int .u32 (u x16))) (by kernel_rfl) (⟨c7, c16⟩) (fun hHeld => ?_)
          refine rtake 0 _ (some 65) _ rfl rfl (by kernel_rfl) (by kernel_rfl) (by kernel_rfl) (fun _ _ _ h => h) (by rfl) hHeld (by intro w hS; obtain ⟨s7, s16⟩ := hS; go_simp; try with_reducible rfl) ?_
          try (rw [put_some]; dsimp only [List.set])
          refine rtake 1 _ (some 66) _ rfl rfl (by kernel_rfl) (by kernel_rfl) (by kernel_rfl) (fun _ _ _ h => h) (by rfl) hHeld (by intro w hS; obtain ⟨s7, s16⟩ := hS; go_simp; try with_reducible rfl) ?_
          try (rw [put_some]; dsimp only [List.set])
          refine rtake 2 _ (some 67) _ rfl rfl (by kernel_rfl) (by kernel_rfl) (by kernel_rfl) (fun _ _ _ h => h) (by rfl) hHeld (by intro w hS; obtain ⟨s7, s16⟩ := hS; go_simp; try with_reducible rfl) ?_
          try (rw [put_some]; dsimp only [List.set])
          refine rtake 3 _ (some 68) _ rfl rfl (by kernel_rfl) (by kernel_rfl) (by kernel_rfl) (fun _ _ _ h => h) (by rfl) hHeld (by intro w hS; obtain ⟨s7, s16⟩ := hS; go_simp; try with_reducible rfl) ?_
          try (rw [put_some]; dsimp only [List.set])
          refine rtake 8 _ (some 73) _ rfl rfl (by kernel_rfl) (by kernel_rfl) (by kernel_rfl) (fun _ _ _ h => h) (by rfl) hHeld (by intro w hS; obtain ⟨s7, s16⟩ := hS; go_simp; try with_reducible rfl) ?_
          try (rw [put_some]; dsimp only [List.set])
          refine rtake 10 _ (some 75) _ rfl rfl (by kernel_rfl) (by kernel_rfl) (by kernel_rfl) (fun _ _ _ h => h) (by rfl) hHeld (by intro w hS; obtain ⟨s7, s16⟩ := hS; go_simp; try with_reducible rfl) ?_
          try (rw [put_some]; dsimp only [List.set])
          refine rtake 11 _ (some 76) _ rfl rfl (by kernel_rfl) (by kernel_rfl) (by kernel_rfl) (fun _ _ _ h => h) (by rfl) hHeld (by intro w hS; obtain ⟨s7, s16⟩ := hS; go_simp; try with_reducible rfl) ?_
          try (rw [put_some]; dsimp only [List.set])
          refine rtake 4 _ (some 69) _ rfl rfl (by kernel_rfl) (by kernel_rfl) (by kernel_rfl) (fun _ _ _ h => h) (by rfl) hHeld (by intro w hS; obtain ⟨s7, s16⟩ := hS; go_simp; try with_reducible rfl) ?_
          try (rw [put_some]; dsimp only [List.set])
          refine rtake 12 _ (some 77) _ rfl rfl (by kernel_rfl) (by kernel_rfl) (by kernel_rfl) (fun _ _ _ h => h) (by rfl) hHeld (by intro w hS; obtain ⟨s7, s16⟩ := hS; go_simp; try with_reducible rfl) ?_
          try (rw [put_some]; dsimp only [List.set])
          refine rtake 5 _ (some 70) _ rfl rfl (by kernel_rfl) (by kernel_rfl) (by kernel_rfl) (fun _ _ _ h => h) (by rfl) hHeld (by intro w hS; obtain ⟨s7, s16⟩ := hS; go_simp; try with_reducible rfl) ?_
          try (rw [put_some]; dsimp only [List.set])
          refine rtake 13 _ (some 78) _ rfl rfl (by kernel_rfl) (by kernel_rfl) (by kernel_rfl) (fun _ _ _ h => h) (by rfl) hHeld (by intro w hS; obtain ⟨s7, s16⟩ := hS; go_simp; try with_reducible rfl) ?_
          try (rw [put_some]; dsimp only [List.set])
          refine rtake 6 _ (some 71) _ rfl rfl (by kernel_rfl) (by kernel_rfl) (by kernel_rfl) (fun _ _ _ h => h) (by rfl) hHeld (by intro w hS; obtain ⟨s7, s16⟩ := hS; go_simp; try with_reducible rfl) ?_
          try (rw [put_some]; dsimp only [List.set])
          refine rtake 14 _ (some 79) _ rfl rfl (by kernel_rfl) (by kernel_rfl) (by kernel_rfl) (fun _ _ _ h => h) (by rfl) hHeld (by intro w hS; obtain ⟨s7, s16⟩ := hS; go_simp; try with_reducible rfl) ?_
          try (rw [put_some]; dsimp only [List.set])
          refine rtake 7 _ (some 72) _ rfl rfl (by kernel_rfl) (by kernel_rfl) (by kernel_rfl) (fun _ _ _ h => h) (by rfl) hHeld (by intro w hS; obtain ⟨s7, s16⟩ := hS; go_simp; try with_reducible rfl) ?_
          try (rw [put_some]; dsimp only [List.set])
          refine rtake 9 _ (some 74) _ rfl rfl (by kernel_rfl) (by kernel_rfl) (by kernel_rfl) (fun _ _ _ h => h) (by rfl) hHeld (by intro w hS; obtain ⟨s7, s16⟩ := hS; go_simp; try with_reducible rfl) ?_
          try (rw [put_some]; dsimp only [List.set])
          refine rtake 15 _ (some 80) _ rfl rfl (by kernel_rfl) (by kernel_rfl) (by kernel_rfl) (fun _ _ _ h => h) (by rfl) hHeld (by intro w hS; obtain ⟨s7, s16⟩ := hS; go_simp; try with_reducible rfl) ?_
          try (rw [put_some]; dsimp only [List.set])
          refine wpAnyH_ready (rs := [16]) (by kernel_rfl) (by simp) (AllReadyH.cons (o := _) rfl (fun K hK => ?_) AllReadyH.nil)
          go_simp
          refine hK.out _ _ (by exact ⟨(World.cell?_alloc_lt _ _ _ hgl).trans c7, (World.cell?_alloc_lt _ _ _ hgl).trans c16⟩) (fun hHeld => ?_)
          clear hK K
          try (rw [put_some]; dsimp only [List.set])
          refine wpAnyH_ready (rs := [17]) (by kernel_rfl) (by simp) (AllReadyH.cons (o := _) rfl (fun K hK => ?_) AllReadyH.nil)
          refine step_append_kept (by rfl) (.tmp 65) (.tmp 81) 56 (by rfl) w.heap.size 40 i0 _ 4 Tryd.underlying56 hi hz0 hz1 hz2 rfl g (j + 16) cap (words (sched l (j + 16))) (by rfl) (hownd.alloc _) ⟨wr.heap.size, 0, none⟩ 1 1 (words [small 1 x2 + x7 + small 0 x15 + x16]) (by rfl) rfl (cells_new _ _ _) (words_one _) hd1 hd2 hd3 ?_; intro v3 w3 hown3 hg3 hk3; have hb3 : Below w.heap.size w w3 := (hbd.alloc hbd.size _).grown hg3 hd3 (fun i hi => by injection hi with hi; omega)
          refine hK.out _ _ (by exact ⟨(hk3 _ (by omega)).trans ((World.cell?_alloc_lt _ _ _ hgl).trans c7), (hk3 _ (by omega)).trans ((World.cell?_alloc_lt _ _ _ hgl).trans c16)⟩) (fun hHeld => ?_)
          clear hK K
          try (rw [put_some]; dsimp only [List.set])
          refine rtake 18 _ (some 3) _ rfl rfl (by kernel_rfl) (by kernel_rfl) (by kernel_rfl) (fun _ _ _ h => h) (by rfl) hHeld (by intro w hS; obtain ⟨s7, s16⟩ := hS; go_simp; try with_reducible rfl) ?_
          try (rw [put_some]; dsimp only [List.set])
          refine wpAnyH_done (by kernel_rfl) ?_ _
          refine NoPanic.normal ?_
          clear c2 c7 c15 c16 w2 w7 w15 n14 m14 t14 n9 m9 t9 n1 m1 t1 m0 w0 hHeld hb hown hownd hbd
          go_wp2_with fail
          go_roundw
          case rel =>
            refine ⟨j + 1, by omega, by go_num, ?_, hb3⟩
            rw [show j + 1 + 16 = j + 16 + 1 by omega, sched, HNX.out, words_append]
            exact hown3
          case measure => simp [intOf]; omega
        · have e48 : j = 48 := by omega
          rw [e48] at hown
          have hl64 := length_sched l 64
          generalize sched l 64 = ws at *
          go_wp2
          go_ret
          exact ⟨_, rfl, by rw [hl64]; exact hown, hb⟩
end Go.Proofs.YtefbopgbikmohaaDoor
