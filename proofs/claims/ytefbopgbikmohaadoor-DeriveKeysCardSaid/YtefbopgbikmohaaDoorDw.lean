/- LAYER 3: package digest's Write. -/
import Derived.Test.YtefbopgbikmohaaDoorDn
namespace Go.Proofs.YtefbopgbikmohaaDoor
open Go Go.RowKit

/-- The length of a slice, for a measure. -/
def lenSl : Value → Nat
  | .slice _ n _ => n
  | _ => 0
set_option maxRecDepth 20000 in
set_option maxHeartbeats 1000000 in
theorem write_any (g : Nat) (l b : List UInt8) (A : Option Addr) (c : Nat) (w : World) (hT : Cube w) (hd : Dgt w g l) (hs : Sl w A c (byts b)) (hA : 0 < b.length → ∀ a, A = some a → a.block ≠ g) (hm : l.length + b.length ≤ 4611686018427387904) :
    Calls Tryd.prog 24 #[.pointer (some ⟨g, 0, none⟩), .slice A b.length c] w fun e w' => e = .returned (.tuple #[]) ∧ Dgt w' g (l ++ b) ∧ w.grownBy w' (some g) := by
  have hcg := hd.1
  go_enter Tryd.func24, Tryd.ntmps24
  go_wp2_with fail
  go_loopw [1] (fun v wr => ∃ p d A' c', p ++ d = b ∧ v = .slice A' d.length c' ∧ Sl wr A' c' (byts d) ∧ (0 < d.length → ∀ a, A' = some a → a.block ≠ g) ∧ Dgt wr g (l ++ p) ∧ w.grownBy wr (some g)) (fun v _ => lenSl v)
  case atStart => exact ⟨[], b, A, c, rfl, rfl, hs, hA, by rw [List.append_nil]; exact hd, grown_refl _ _⟩
  case round =>
    clear hd hs hA
    obtain ⟨p, d, A', c', hpd, rfl, hs, hA, ⟨_, o, ho, hr⟩, hg⟩ := hrel
    by_cases hlt : 0 < d.length
    · obtain ⟨bb, oo, rfl, hbl, hcell⟩ := hs.rd.get (i := 0) (by rw [length_byts]; exact hlt)
      have hne := hA hlt _ rfl
      have hlen : (l ++ p).length + d.length ≤ 4611686018427387904 := by rw [← hpd] at hm; simp only [List.length_append] at hm ⊢; omega
      obtain ⟨q, hq⟩ : ∃ q, q = l ++ p := ⟨_, rfl⟩
      rw [← hq] at ho hr hlen
      obtain ⟨m, hmq⟩ : ∃ m, m = q.length := ⟨_, rfl⟩
      obtain ⟨s, hsq⟩ : ∃ s, s = stK q (m / 64) := ⟨_, rfl⟩
      rw [← hmq, ← hsq] at hr
      rw [← hmq] at hlen
      have c72 : wr.cell? ⟨g, 72, none⟩ = some (.int .u64 m) := (hr.cell 72).trans (digV_many _ _ _ ho.1)
      have f72 : wr.frozen? ⟨g, 72, none⟩ = false := hr.free 72
      obtain ⟨r, hrq⟩ : ∃ r, r = m % 64 := ⟨_, rfl⟩
      obtain ⟨C, hC⟩ : ∃ C, C = d.take (64 - r) := ⟨_, rfl⟩
      obtain ⟨D, hD⟩ : ∃ D, D = d.drop (64 - r) := ⟨_, rfl⟩
      have hCD : d = C ++ D := by rw [hC, hD, List.take_append_drop]
      obtain ⟨n, hn⟩ : ∃ n, n = C.length := ⟨_, rfl⟩
      have hmin : n = Nat.min d.length (64 - r) := by rw [hn, hC, List.length_take, Nat.min_comm]
      have hnd : n ≤ d.length := by rw [hmin]; exact Nat.min_le_left _ _
      have hn64' : n ≤ 64 - r := by rw [hmin]; exact Nat.min_le_right _ _
      have hn64 : r + n ≤ 64 := by omega
      have hn0 : 0 < n := by rw [hmin]; exact Nat.lt_min.2 ⟨hlt, by omega⟩
      have hend : r + n < 64 → n = d.length := fun h => by
        have : min d.length (64 - r) = n := hmin.symm
        omega
      have hDl : D.length = d.length - n := by rw [hCD, List.length_append, ← hn]; omega
      have hCs := Lib.hid (show ∀ j v, (byts C)[j]? = some v → wr.drew.cell? ((⟨bb, oo, none⟩ : Addr).add j) = some v by
        intro j v hj
        refine hs.rd.at_add j v ?_
        rw [hCD, byts_append, List.getElem?_append_left (List.getElem?_eq_some_iff.1 hj).1]; exact hj)
      have hCl := Lib.hid (show (byts C).length = n by rw [length_byts, hn])
      have hCn := Lib.hid hmin
      have hrn := Lib.hid (show r + C.length ≤ 64 by rw [← hn]; exact hn64)
      have hCf := Lib.hid (show 8 + r + (byts C).length ≤ (digV s o m).length by rw [length_byts, length_digV _ _ _ ho.1, ← hn]; omega)
      have hcap := hs.room
      rw [length_byts] at hcap
      obtain ⟨o1, ho1⟩ : ∃ o1, o1 = splice o r C := ⟨_, rfl⟩
      have hol := Lib.hid (show (splice o r C).length = 64 by rw [length_splice _ _ _ (by rw [ho.1, ← hn]; exact hn64), ho.1])
      have hr0 : r < 64 := by omega
      have hrem : (m : Int).tmod 64 = (r : Int) := by rw [Int.tmod_eq_emod_of_nonneg (by omega)]; omega
      have rb1 : (0 : Int) ≤ (r : Int) := by omega
      have rb2 : (r : Int) ≤ 64 := by omega
      have hr64 : ¬ (64 = r) := by omega
      have HP := Lib.hid hpd
      have HQ := Lib.hid hq
      have HM := Lib.hid hmq
      have HS' := Lib.hid (show s = stK q (q.length / 64) by rw [hsq, hmq])
      have HR := Lib.hid hrq
      have HC := Lib.hid hCD
      have HN := Lib.hid hn
      have HD := Lib.hid hDl
      have HO := Lib.hid ho1
      have HE := Lib.hid hend
      clear hpd hq hmq hsq hrq hCD hn hDl ho1 hA hcell hC hD hmin hend hn64'
      go_wp2_with fail
      refine wp_region_noPanic ?_
      refine wp_region_held_drew (S := fun w' => w'.cell? ⟨g, 72, none⟩ = some (.int .u64 m)) (by kernel_rfl) (c72) (fun hHeld => ?_)
      refine rtake 0 _ (some 8) _ rfl rfl (by kernel_rfl) (by kernel_rfl) (by kernel_rfl) (fun _ _ _ h => h) (by rfl) hHeld (by intro w hS; go_simp; try with_reducible rfl) ?_
      try (first | (rw [put_some]; dsimp only [List.set]) | rw [put_none])
      refine rtake 1 _ (some 9) _ rfl rfl (by kernel_rfl) (by kernel_rfl) (by kernel_rfl) (fun _ _ _ h => h) (by rfl) hHeld (by intro w hS; go_simp; try with_reducible rfl) ?_
      try (first | (rw [put_some]; dsimp only [List.set]) | rw [put_none])
      refine rtake 2 _ (some 10) _ rfl rfl (by kernel_rfl) (by kernel_rfl) (by kernel_rfl) (fun _ _ _ h => h) (by rfl) hHeld (by intro w hS; go_simp; try with_reducible rfl) ?_
      try (first | (rw [put_some]; dsimp only [List.set]) | rw [put_none])
      refine rtake 3 _ (some 11) _ rfl rfl (by kernel_rfl) (by kernel_rfl) (by kernel_rfl) (fun _ _ _ h => h) (by rfl) hHeld (by intro w hS; go_simp; try with_reducible rfl) ?_
      try (first | (rw [put_some]; dsimp only [List.set]) | rw [put_none])
      refine rtake 4 _ (some 12) _ rfl rfl (by kernel_rfl) (by kernel_rfl) (by kernel_rfl) (fun _ _ _ h => h) (by rfl) hHeld (by intro w hS; go_simp; try with_reducible rfl) ?_
      try (first | (rw [put_some]; dsimp only [List.set]) | rw [put_none])
      refine rtake 5 _ (some 13) _ rfl rfl (by kernel_rfl) (by kernel_rfl) (by kernel_rfl) (fun _ _ _ h => h) (by rfl) hHeld (by intro w hS; go_simp; try with_reducible rfl) ?_
      try (first | (rw [put_some]; dsimp only [List.set]) | rw [put_none])
      refine rtake 6 _ (some 14) _ rfl rfl (by kernel_rfl) (by kernel_rfl) (by kernel_rfl) (fun _ _ _ h => h) (by rfl) hHeld (by intro w hS; go_simp; try with_reducible rfl) ?_
      try (first | (rw [put_some]; dsimp only [List.set]) | rw [put_none])
      refine rtake 7 _ (some 15) _ rfl rfl (by kernel_rfl) (by kernel_rfl) (by kernel_rfl) (fun _ _ _ h => h) (by rfl) hHeld (by intro w hS; go_simp; try with_reducible rfl) ?_
      try (first | (rw [put_some]; dsimp only [List.set]) | rw [put_none])
      refine rtake 8 _ (some 16) _ rfl rfl (by kernel_rfl) (by kernel_rfl) (by kernel_rfl) (fun _ _ _ h => h) (by rfl) hHeld (by intro w hS; go_simp; try with_reducible rfl) ?_
      try (first | (rw [put_some]; dsimp only [List.set]) | rw [put_none])
      refine rtake 9 _ (some 17) _ rfl rfl (by kernel_rfl) (by kernel_rfl) (by kernel_rfl) (fun _ _ _ h => h) (by rfl) hHeld (by intro w hS; go_simp; try with_reducible rfl) ?_
      try (first | (rw [put_some]; dsimp only [List.set]) | rw [put_none])
      refine wpAnyH_ready (rs := [10]) (by kernel_rfl) (by simp) (AllReadyH.cons (o := _) rfl (fun K hK => ?_) AllReadyH.nil)
      refine step_copy_row (some 18) rfl (by rfl) (.tmp 16) (.tmp 17) 27 27 rfl 5 Tryd.underlying27 sizeByte g _ _ _ _ _ _ rfl rfl 63 _ hr.drew (byts C) n hCl.out hCn.out hCs.out hCf.out (byts_one _) ?_; intro w1 hr1 hg1; rw [digV_copy _ _ _ _ _ ho.1 hrn.out] at hr1; have c72a : w1.cell? ⟨g, 72, none⟩ = some (.int .u64 m) := (hr1.cell 72).trans (digV_many _ _ _ hol.out); have f72a : w1.frozen? ⟨g, 72, none⟩ = false := hr1.free 72
      refine hK.out _ _ (by exact c72a) (fun hHeld => ?_)
      clear hK K
      try (first | (rw [put_some]; dsimp only [List.set]) | rw [put_none])
      refine rtake 11 _ (some 4) _ rfl rfl (by kernel_rfl) (by kernel_rfl) (by kernel_rfl) (fun _ _ _ h => h) (by rfl) hHeld (by intro w hS; go_simp; try with_reducible rfl) ?_
      try (first | (rw [put_some]; dsimp only [List.set]) | rw [put_none])
      refine wpAnyH_done (by kernel_rfl) ?_ _
      refine NoPanic.normal ?_
      rw [← HO.out] at hr1 hol
      have hg1' : wr.grownBy w1 (some g) := ⟨hg1.os, hg1.tape, hg1.output, hg1.size, hg1.block⟩
      have hg1'' := grown_trans hg hg1'
      clear hrem rb1 rb2 hr64 hCs hCl hCn hCf hg1 c72 f72 hHeld
      have hn1 : (0 : Int) ≤ (n : Int) := by omega
      have hn2 : (n : Int) ≤ (d.length : Int) := by omega
      have wn : IntKind.u64.wrap (n : Int) = (n : Int) := by rw [IntKind.wrap_u64]; omega
      have wm : IntKind.u64.wrap ((m : Int) + (n : Int)) = (m : Int) + (n : Int) := by rw [IntKind.wrap_u64]; omega
      have hmr := HR.out
      obtain ⟨A2, hA2⟩ : ∃ A2 : Addr, A2 = if c' = n then ⟨bb, oo, none⟩ else ⟨bb, oo + n, none⟩ := ⟨_, rfl⟩
      have hslc : ∀ w, (Instr.sliceAt 27 (.slice (some ⟨bb, oo, none⟩) d.length c') (some (.int .i64 n)) none none).run Tryd.prog w = .ok (.slice (some A2) (d.length - n) (c' - n)) w := by
        intro w
        rw [hA2]
        go_simp
        split <;> rfl
      have HA2 := Lib.hid hA2
      clear hA2
      by_cases hfull : r + n = 64
      · have ht : ((m : Int) + (n : Int)) % 64 = 0 := by omega
        clear hmr
        go_wp2_with fail
        generalize hw2 : World.setCell w1 _ _ = w2
        have hr2 : Row w2 g 63 (digV s o1 (m + n)) := by
          have h := hr1.set 72 (.int .u64 ((m : Int) + (n : Int)))
          rw [hw2, ← Int.natCast_add, digV_set _ _ _ _ hol.out] at h; exact h
        have hg2 := grown_setCell w1 g 72 (.int .u64 ((m : Int) + (n : Int)))
        rw [hw2] at hg2
        have hg2' := grown_trans hg1' hg2
        have hg2'' := grown_trans hg hg2'
        have hrange0 := Lib.hid (digV_range0 hr2.drew)
        have hrange8 := Lib.hid (digV_range8 hr2.drew)
        have hCube : Cube w2.drew := cube_drew (hT.grown hg2'' hcg)
        have hsz8 := Lib.hid (show (Tryd.prog.info? 61).map (·.size) = some (words s.list).length by rw [size8, length_words, length_list])
        have hszc := Lib.hid (show (Tryd.prog.info? 61).map (·.size) = some (words (compS o1 s).list).length by rw [size8, length_words, length_list])
        have hszb := Lib.hid (show (Tryd.prog.info? 49).map (·.size) = some (byts o1).length by rw [size64b, length_byts, hol.out])
        have hfit8 := Lib.hid (show 0 + (words (compS o1 s).list).length ≤ (digV s o1 (m + n)).length by rw [length_words, length_list, length_digV _ _ _ hol.out]; omega)
        clear hg1' hg1'' hg2 c72a f72a hw2 ht
        refine wp_region_noPanic ?_
        refine wp_region_held_drew (S := fun w' => w'.rangeAt g 8 (byts o1)) (by kernel_rfl) (hrange8.out) (fun hHeld => ?_)
        refine rtake 0 _ (some 37) _ rfl rfl (by kernel_rfl) (by kernel_rfl) (by kernel_rfl) (fun _ _ _ h => h) (by rfl) hHeld (by intro w hS; go_simp; try with_reducible rfl) ?_
        try (first | (rw [put_some]; dsimp only [List.set]) | rw [put_none])
        refine rtake 1 _ (some 38) _ rfl rfl (by kernel_rfl) (by kernel_rfl) (by kernel_rfl) (fun _ _ _ h => h) (by rfl) hHeld (by intro w hS; go_simp; try with_reducible rfl) ?_
        try (first | (rw [put_some]; dsimp only [List.set]) | rw [put_none])
        refine rtake 2 _ (some 39) _ rfl rfl (by kernel_rfl) (by kernel_rfl) (by kernel_rfl) (fun _ _ _ h => h) (by rfl) hHeld (by intro w hS; go_simp; try with_reducible rfl) ?_
        try (first | (rw [put_some]; dsimp only [List.set]) | rw [put_none])
        refine rtake 3 _ (some 40) _ rfl rfl (by kernel_rfl) (by kernel_rfl) (by kernel_rfl) (fun _ _ _ h => h) (by rfl) hHeld (by intro w hS; go_simp; try with_reducible rfl) ?_
        try (first | (rw [put_some]; dsimp only [List.set]) | rw [put_none])
        refine rtake 5 _ (some 42) _ rfl rfl (by kernel_rfl) (by kernel_rfl) (by kernel_rfl) (fun _ _ _ h => h) (by rfl) hHeld (by intro w hS; go_simp; try with_reducible rfl) ?_
        try (first | (rw [put_some]; dsimp only [List.set]) | rw [put_none])
        refine rtake 6 _ (some 43) _ rfl rfl (by kernel_rfl) (by kernel_rfl) (by kernel_rfl) (fun _ _ _ h => h) (by rfl) hHeld (by intro w hS; go_simp; try with_reducible rfl) ?_
        try (first | (rw [put_some]; dsimp only [List.set]) | rw [put_none])
        refine rtake 7 _ (some 44) _ rfl rfl (by kernel_rfl) (by kernel_rfl) (by kernel_rfl) (fun _ _ _ h => h) (by rfl) hHeld (by intro w hS; go_simp; try with_reducible rfl) ?_
        try (first | (rw [put_some]; dsimp only [List.set]) | rw [put_none])
        refine rtake 8 _ (some 45) _ rfl rfl (by kernel_rfl) (by kernel_rfl) (by kernel_rfl) (fun _ _ _ h => h) (by rfl) hHeld (by intro w hS; exact run_load_op 49 (.tmp 44) rfl g 8 rfl (byts o1) _ hS Tryd.underlying49 rfl hszb.out) ?_
        try (first | (rw [put_some]; dsimp only [List.set]) | rw [put_none])
        refine wpAnyH_ready (rs := [4]) (by kernel_rfl) (by simp) (AllReadyH.cons (o := _) rfl (fun K hK => ?_) AllReadyH.nil)
        refine step_load_mid (some 41) rfl (by rfl) 61 (.tmp 40) rfl g 0 rfl (words s.list) _ hrange0.out Tryd.underlying61 rfl hsz8.out ?_
        refine hK.out _ _ (hHeld) (fun hHeld => ?_)
        clear hK K
        try (first | (rw [put_some]; dsimp only [List.set]) | rw [put_none])
        refine wpAnyH_ready (rs := [9]) (by kernel_rfl) (by simp) (AllReadyH.cons (o := _) rfl (fun K hK => ?_) AllReadyH.nil)
        go_simp
        refine (compress_any o1 hol.out s _ hCube).mono ?_; rintro e w3 ⟨rfl, hb3⟩
        try go_wp2_with fail
        refine hK.out _ _ (by exact digV_range8 (hr2.drew.later hb3 hr2.lt)) (fun hHeld => ?_)
        clear hK K
        try (first | (rw [put_some]; dsimp only [List.set]) | rw [put_none])
        refine rtake 10 _ (some 47) _ rfl rfl (by kernel_rfl) (by kernel_rfl) (by kernel_rfl) (fun _ _ _ h => h) (by rfl) hHeld (by intro w hS; go_simp; try with_reducible rfl) ?_
        try (first | (rw [put_some]; dsimp only [List.set]) | rw [put_none])
        refine rtake 11 _ (some 48) _ rfl rfl (by kernel_rfl) (by kernel_rfl) (by kernel_rfl) (fun _ _ _ h => h) (by rfl) hHeld (by intro w hS; go_simp; try with_reducible rfl) ?_
        try (first | (rw [put_some]; dsimp only [List.set]) | rw [put_none])
        refine wpAnyH_ready (rs := [12]) (by kernel_rfl) (by simp) (AllReadyH.cons (o := _) rfl (fun K hK => ?_) AllReadyH.nil)
        refine step_store_row none rfl (by rfl) 61 (.tmp 48) (.tmp 46) rfl g 0 63 _ (words (compS o1 s).list) rfl rfl (hr2.drew.later hb3 hr2.lt) hfit8.out hszc.out (words_one _) ?_; intro w4 hr4 hg4; rw [digV_words] at hr4
        refine hK.out _ _ (by exact digV_range8 hr4) (fun _ => ?_)
        clear hK K
        try (first | (rw [put_some]; dsimp only [List.set]) | rw [put_none])
        refine wpAnyH_done (by kernel_rfl) ?_ _
        refine NoPanic.normal ?_
        have hgA := grown_trans hg2' (grown_trans (grown_of_below (w := w2) ⟨hb3.os, hb3.tape, hb3.output, hb3.size, hb3.block⟩ _) hg4)
        clear hrange0 hrange8 hCube hsz8 hszc hszb hfit8 hHeld hslc
        go_wp2_with fail
        go_roundw
        case rel =>
          have e1 : q.length % 64 = r := by rw [← HM.out]; exact HR.out.symm
          obtain ⟨k1, k2⟩ := opn_full (c := C) ho (by rw [e1, ← HN.out]; omega)
          rw [e1, ← HO.out] at k1 k2
          refine ⟨p ++ C, D, some A2, c' - n, ?_, by rw [HD.out], ?_, ?_, ⟨hcg, o1, ?_, ?_⟩, grown_trans hg hgA⟩
          · rw [List.append_assoc, ← HC.out]; exact HP.out
          · have h := hs.from (k := n) (by rw [length_byts]; omega) HA2.out
            have e : (byts d).drop n = byts D := by
              rw [HC.out, byts_append, HN.out, ← length_byts]; exact List.drop_left
            rw [e] at h
            exact h.apart hgA (fun _ a ha => by cases ha; rw [from_block HA2.out]; exact hne)
          · intro _ a ha
            cases ha
            rw [from_block HA2.out]; exact hne
          · rw [← List.append_assoc, ← HQ.out]; exact k1
          · rw [← List.append_assoc, ← HQ.out, k2, ← HS'.out, List.length_append, ← HN.out, ← HM.out]
            exact hr4
        case measure => simp [lenSl]; omega
      · have ht : (((m : Int) + (n : Int)) % 64 == 0) = false := by simp; omega
        clear hmr
        go_wp2_with fail
        generalize hw2 : World.setCell w1 _ _ = w2
        have hr2 : Row w2 g 63 (digV s o1 (m + n)) := by
          have h := hr1.set 72 (.int .u64 ((m : Int) + (n : Int)))
          rw [hw2, ← Int.natCast_add, digV_set _ _ _ _ hol.out] at h; exact h
        have hg2 := grown_setCell w1 g 72 (.int .u64 ((m : Int) + (n : Int)))
        rw [hw2] at hg2
        have hg2' := grown_trans hg1' hg2
        have hg2'' := grown_trans hg hg2'
        go_roundw
        case rel =>
          have e1 : q.length % 64 = r := by rw [← HM.out]; exact HR.out.symm
          obtain ⟨k1, k2⟩ := opn_more (c := C) ho (by rw [e1, ← HN.out]; omega)
          rw [e1, ← HO.out] at k1
          refine ⟨p ++ C, D, some A2, c' - n, ?_, by rw [HD.out], ?_, ?_, ⟨hcg, o1, ?_, ?_⟩, hg2''⟩
          · rw [List.append_assoc, ← HC.out]; exact HP.out
          · have h := hs.from (k := n) (by rw [length_byts]; omega) HA2.out
            have e : (byts d).drop n = byts D := by
              rw [HC.out, byts_append, HN.out, ← length_byts]; exact List.drop_left
            rw [e] at h
            exact h.apart hg2' (fun _ a ha => by cases ha; rw [from_block HA2.out]; exact hne)
          · intro _ a ha
            cases ha
            rw [from_block HA2.out]; exact hne
          · rw [← List.append_assoc, ← HQ.out]; exact k1
          · rw [← List.append_assoc, ← HQ.out, k2, ← HS'.out, List.length_append, ← HN.out, ← HM.out]
            exact hr2
        case measure => simp [lenSl]; omega
    · have hd0 : d = [] := List.eq_nil_of_length_eq_zero (by omega)
      subst hd0
      rw [List.append_nil] at hpd
      subst hpd
      go_wp2_with fail
      go_end0
      exact ⟨rfl, ⟨hcg, o, ho, hr⟩, hg⟩
end Go.Proofs.YtefbopgbikmohaaDoor
