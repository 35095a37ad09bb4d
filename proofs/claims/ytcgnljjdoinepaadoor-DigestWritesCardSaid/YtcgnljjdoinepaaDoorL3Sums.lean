/- LAYER 3, DigestSums: the walk of the law. -/
import Derived.Test.YtcgnljjdoinepaaDoorDr
import Derived.Test.YtcgnljjdoinepaaDoorDt
import Derived.Test.YtcgnljjdoinepaaDoorS
namespace Go.Proofs.YtcgnljjdoinepaaDoor
open Go Go.RowKit

theorem index_parts (A : Option Addr) (b o n c k : Nat) (hA : A = some ⟨b, o, none⟩) (hk : k < n) (w : World) :
    (Instr.indexAt 22 (.slice A n c) (.int .i64 k)).run Tryd.prog w = .ok (.pointer (some ⟨b, o + k, none⟩)) w := by
  subst hA
  have h : (k : Int) < (n : Int) := by omega
  go_simp
set_option maxRecDepth 20000 in
set_option maxHeartbeats 1000000 in
theorem sums_walk (A : Option Addr) (n c : Nat) (ps : List Part) (w : World) (hT : Tabs w) (hp : Parts w A c ps) (hn : n = ps.length) (hpl : ps.length ≤ 9223372036854775807) (hpe : ∀ p ∈ ps, p.2.2.length ≤ 9223372036854775807) :
    Calls Tryd.prog 3 #[.slice A n c] w fun e w' => e = .returned (.bool true) ∧ Below w.heap.size w w' := by
  subst hn
  obtain ⟨i0, hi, hz0, hz1, hz2⟩ := info_parts infoByte
  by_cases h20 : 20 < ps.length
  · go_enter Tryd.func3, Tryd.ntmps3
    go_wp2_with (go_at_call 6; refine (dalive_any _ hT).mono ?_; rintro e w1 ⟨rfl, hb1⟩)
    go_ret
    exact ⟨rfl, hb1⟩
  · have h20' : ps.length ≤ 20 := by omega
    clear h20
    go_enter Tryd.func3, Tryd.ntmps3
    go_wp2_with (go_at_call 6; refine (dalive_any _ hT).mono ?_; rintro e w1 ⟨rfl, hb1⟩)
    have hown0 : (w1.alloc (.cells #[] 5)).ownsRow w.heap.size 5 1 (.slice (some ⟨w1.heap.size, 0, none⟩) 0 0) 0 [] := World.ownsRow_lit w1 #[] 0 hb1.size (by unfold maxLen; omega) rfl
    have hb0 := hb1.alloc hb1.size (.cells #[] 5)
    go_loopw [3, 15] (fun v i wr => ∃ k : Nat, k ≤ ps.length ∧ i = .int .i64 k ∧ wr.ownsRow w.heap.size 5 1 v (flat (ps.take k)).length (byts (flat (ps.take k))) ∧ (flat (ps.take k)).length ≤ 200 * k ∧ Below w.heap.size w wr) (fun _ i _ => ps.length - (intOf i).toNat)
    case atStart => exact ⟨0, by omega, rfl, hown0, by simp [flat], hb0⟩
    case round =>
      clear hown0 hb0 hb1
      obtain ⟨k, hk, rfl, hown, hF, hb⟩ := hrel
      by_cases hlt : k < ps.length
      · obtain ⟨b, o, hA, _, _⟩ := hp.sl.rd.get (i := 0) (by rw [List.length_map]; omega)
        have hix := index_parts A b o ps.length c k hA hlt
        have hps := hp.later (Nat.le_refl _) hb
        rw [hA] at hps
        have hck := hps.get k hlt
        have hsk := hps.each ps[k] (List.getElem_mem hlt)
        have hle := hpe ps[k] (List.getElem_mem hlt)
        have HS := Lib.hid (flat_succ ps k hlt)
        unfold partV at hck
        obtain ⟨⟨Ak, ck, lk⟩, hpk⟩ : ∃ p, p = ps[k] := ⟨_, rfl⟩
        rw [← hpk] at hck hsk HS hle
        dsimp only at hck hsk HS hle
        have HA := Lib.hid hA
        clear hpk hps hA
        by_cases h200 : 200 < lk.length
        · go_wp2_with fail
          go_ret
          exact ⟨rfl, hb⟩
        · have h200' : lk.length ≤ 200 := by omega
          have n1 : (flat (ps.take k)).length + lk.length ≤ maxLen := by unfold maxLen; omega
          have n2 : ((flat (ps.take k)).length + lk.length) * 1 ≤ 140737488355328 := by omega
          generalize flat (ps.take k) = F at *
          go_wp2_with (at_builtin; refine wpList_append_sl rfl (.tmp 22) (.tmp 23) 24 rfl w.heap.size 5 i0 _ 1 Tryd.underlying24 hi hz0 hz1 hz2 rfl _ F.length (byts F) rfl hown Ak lk.length ck (byts lk) rfl (length_byts _).symm hsk (byts_one _) n1 n2 hb.size ?_; intro v8 w8 hown8 hg8; have hb8 : Below w.heap.size w w8 := hb.grown hg8 hb.size (fun k hk => (hown.lt k hk).1))
          rw [← byts_append, ← List.length_append, ← HS.out] at hown8
          have hF8 : (flat (ps.take (k + 1))).length ≤ 200 * (k + 1) := by rw [HS.out, List.length_append]; omega
          clear hg8 hown hb hck hsk hix
          go_roundw
          case rel => exact ⟨k + 1, by omega, by go_num, hown8, hF8, hb8⟩
          case measure => simp [intOf]; omega
      · rw [flat_all ps k (by omega)] at hown hF
        have hF2 := Lib.hid (show (flat ps).length ≤ 35184372088832 by omega)
        have hF3 : (flat ps).length ≤ 2305843009213693952 := by omega
        have hps := hp.later (Nat.le_refl _) hb
        have hTr := hT.later hb (Nat.le_refl _)
        obtain ⟨V, hV⟩ : ∃ V, V = byts (shaL (flat ps)) := ⟨_, rfl⟩
        have hof := Lib.hid (show Calls Tryd.prog 7 #[.slice A ps.length c] wr fun e w' => e = .returned (.agg V.toArray) ∧ Below wr.heap.size wr w' by rw [hV]; exact of_any A ps.length c ps wr hTr hps rfl hF3 hpl)
        have hVl : V.length = 32 := by rw [hV]; exact store_tag
        have hone := Lib.hid (all_one (show ∀ v ∈ V, v.oneCell' = true by rw [hV]; exact byts_one _))
        have hsz := Lib.hid (show (Tryd.prog.info? 26).map (·.size) = some V.toArray.size by rw [size_tag, List.size_toArray, hVl])
        have h32 := Lib.hid (show 32 = V.toArray.size by rw [List.size_toArray, hVl])
        have HV := Lib.hid hV
        obtain ⟨F, hFq⟩ : ∃ F, F = flat ps := ⟨_, rfl⟩
        rw [← hFq] at hown hF2
        rw [← hFq] at HV
        obtain ⟨A3, c3, hv3, _, hsl3⟩ := Sl.of_own hown
        clear hVl hV hF3 hps hTr hFq hF hown
        subst hv3
        go_wp2_with (first
          | (go_at_call 7; refine hof.out.mono ?_; rintro e w3 ⟨rfl, hb3⟩)
          | (with_reducible refine wpList_store_row rfl 26 (.tmp 6) (.tmp 27) rfl w3.heap.size V.toArray rfl rfl 26 _ (heap_alloc_new w3 _) hsz.out (Eq.trans (by kernel_rfl) h32.out) hone.out ?_; refine Hid.out ?_))
        refine Lib.hid ?_
        generalize hw4 : World.setRow _ _ _ = w4
        obtain ⟨r4, hb4⟩ := row_new_set (xs := V) hw4
        rw [HV.out] at r4
        have hslV : Sl w4 (some ⟨w3.heap.size, 0, none⟩) 32 (byts (shaL F)) := ⟨Rd.row (ys := []) (by rw [List.append_nil]; exact r4), by rw [length_byts]; exact Nat.le_refl _, fun h => by cases h⟩
        have hcvX := conv_later hslV 32 rfl
        have hslF := (hsl3.later (Nat.le_refl _) (below_step hb3 hb4)).later (Nat.le_refl _) ((Below.refl w4.heap.size w4).drew)
        clear hw4 r4 hslV
        go_wp2_with fail
        refine wp_region_noPanic ?_
        refine wp_region_held_drew (S := fun w' => Below w4.heap.size w4 w') (by kernel_rfl) ((Below.refl _ _).drew) (fun hHeld => ?_)
        have hAll := hHeld
        refine rtake 0 _ (some 28) _ rfl rfl (by kernel_rfl) (by kernel_rfl) (by kernel_rfl) (fun _ _ _ h => h) (by rfl) hHeld (by intro w hS; go_simp; try with_reducible rfl) ?_
        try (rw [put_some]; dsimp only [List.set])
        refine rtake 1 _ (some 29) _ rfl rfl (by kernel_rfl) (by kernel_rfl) (by kernel_rfl) (fun _ _ _ h => h) (by rfl) hHeld (by intro w hS; go_simp; try with_reducible rfl) ?_
        try (rw [put_some]; dsimp only [List.set])
        refine rtake 2 _ (some 30) _ rfl rfl (by kernel_rfl) (by kernel_rfl) (by kernel_rfl) (fun _ _ _ h => h) (by rfl) hHeld (by intro w hS; go_simp; try with_reducible rfl) ?_
        try (rw [put_some]; dsimp only [List.set])
        refine wpAnyH_ready (rs := [3]) (by kernel_rfl) (by simp) (AllReadyH.cons (o := _) rfl (fun K hK => ?_) AllReadyH.nil)
        go_simp
        refine (rof_any A3 F.length c3 F _ hslF rfl hF2.out).mono ?_; rintro e w5 ⟨v5, rfl, hown5, hb5⟩; obtain ⟨A5, c5, rfl, _, hsl5⟩ := Sl.of_own hown5; have hcv5 := conv_later hsl5 _ rfl; clear hown5
        try go_wp2_with fail
        refine hK.out _ _ (below_step hHeld hb5) (fun _ => ?_)
        clear hK K
        try (rw [put_some]; dsimp only [List.set])
        have hAll := below_step hAll hb5
        refine wpAnyH_narrow (S' := fun w' => Below w5.heap.size w5 w') (fun _ h => below_step (below_step hHeld hb5) h) _ _ _ _ ?_
        clear hHeld
        have hHeld : Below w5.heap.size w5 w5 := Below.refl _ _
        refine rtake 4 _ (some 32) _ rfl rfl (by kernel_rfl) (by kernel_rfl) (by kernel_rfl) (fun _ _ _ h => h) (by rfl) hHeld (by intro w hS; go_simp; try with_reducible rfl) ?_
        try (rw [put_some]; dsimp only [List.set])
        refine rtake 5 _ (some 33) _ rfl rfl (by kernel_rfl) (by kernel_rfl) (by kernel_rfl) (fun _ _ _ h => h) (by rfl) hHeld (by intro w hS; go_simp; try with_reducible rfl) ?_
        try (rw [put_some]; dsimp only [List.set])
        refine rtake 6 _ (some 34) _ rfl rfl (by kernel_rfl) (by kernel_rfl) (by kernel_rfl) (fun _ _ _ h => h) (by rfl) hHeld (by intro w hS; go_simp; try with_reducible rfl) ?_
        try (rw [put_some]; dsimp only [List.set])
        refine wpAnyH_ready (rs := [7]) (by kernel_rfl) (by simp) (AllReadyH.cons (o := _) rfl (fun K hK => ?_) AllReadyH.nil)
        go_simp
        refine (rStart3_any _).mono ?_; rintro e w6 ⟨rfl, hb6⟩
        try go_wp2_with fail
        refine hK.out _ _ (below_step hHeld hb6) (fun _ => ?_)
        clear hK K
        try (rw [put_some]; dsimp only [List.set])
        have hAll := below_step hAll hb6
        refine wpAnyH_narrow (S' := fun w' => Below w6.heap.size w6 w') (fun _ h => below_step (below_step hHeld hb6) h) _ _ _ _ ?_
        clear hHeld
        have hHeld : Below w6.heap.size w6 w6 := Below.refl _ _
        refine rtake 8 _ (some 36) _ rfl rfl (by kernel_rfl) (by kernel_rfl) (by kernel_rfl) (fun _ _ _ h => h) (by rfl) hHeld (by intro w hS; go_simp; try with_reducible rfl) ?_
        try (rw [put_some]; dsimp only [List.set])
        refine rtake 9 _ (some 2) _ rfl rfl (by kernel_rfl) (by kernel_rfl) (by kernel_rfl) (fun _ _ _ h => h) (by rfl) hHeld (by intro w hS; go_simp; try with_reducible rfl) ?_
        try (rw [put_some]; dsimp only [List.set])
        refine wpAnyH_done (by kernel_rfl) ?_ _
        refine NoPanic.normal ?_
        have hbZ := hb.trans ((below_step (below_step hb3 hb4) hAll).mono hb.size)
        clear hAll hHeld hb3 hb4 hb5 hb6 hsl5 hslF hcv5 hcvX hb
        go_wp2
        go_ret
        exact ⟨rfl, hbZ⟩
end Go.Proofs.YtcgnljjdoinepaaDoor
