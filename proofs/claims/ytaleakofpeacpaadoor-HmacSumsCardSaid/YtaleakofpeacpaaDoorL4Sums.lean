/- LAYER 4, HmacSums: the walk of the law. -/
import Derived.Test.YtaleakofpeacpaaDoorHo
import Derived.Test.YtaleakofpeacpaaDoorHr
import Derived.Test.YtaleakofpeacpaaDoorHt
import Derived.Test.YtaleakofpeacpaaDoorS
import Derived.Test.YtaleakofpeacpaaDoorEq
namespace Go.Proofs.YtaleakofpeacpaaDoor
open Go Go.RowKit

set_option maxRecDepth 100000 in
set_option maxHeartbeats 4000000 in
theorem hsums_walk (A : Option Addr) (n c : Nat) (key : List UInt8) (B : Option Addr) (m d : Nat) (ps : List Part) (w : World) (hT : Tabs w) (hs : Sl w A c (byts key)) (hn : n = key.length) (hkl : key.length ≤ 9223372036854775807)
    (hp : Parts w B d ps) (hm : m = ps.length) (hpl : ps.length ≤ 9223372036854775807) (hpe : ∀ p ∈ ps, p.2.2.length ≤ 9223372036854775807) :
    Calls Tryd.prog 3 #[.slice A n c, .slice B m d] w fun e w' => e = .returned (.bool true) ∧ Below w.heap.size w w' := by
  subst hm hn
  obtain ⟨i0, hi, hz0, hz1, hz2⟩ := info_parts infoByte
  by_cases h200 : 200 < key.length
  · go_enter Tryd.func3, Tryd.ntmps3
    go_wp2_with (go_at_call 5; refine (halive_any _ hT).mono ?_; rintro e w1 ⟨rfl, hb1⟩)
    go_ret
    exact ⟨rfl, hb1⟩
  have h200' : key.length ≤ 200 := by omega
  clear h200
  by_cases h10 : 10 < ps.length
  · go_enter Tryd.func3, Tryd.ntmps3
    go_wp2_with (go_at_call 5; refine (halive_any _ hT).mono ?_; rintro e w1 ⟨rfl, hb1⟩)
    go_ret
    exact ⟨rfl, hb1⟩
  have h10' : ps.length ≤ 10 := by omega
  clear h10
  have n1 : 0 + key.length ≤ maxLen := by unfold maxLen; omega
  have n2 : (0 + key.length) * 1 ≤ 140737488355328 := by omega
  go_enter Tryd.func3, Tryd.ntmps3
  go_wp2_with (first
    | (go_at_call 5; refine (halive_any _ hT).mono ?_; rintro e w1 ⟨rfl, hb1⟩; have hown1 : (w1.alloc (.cells #[] 5)).ownsRow w.heap.size 5 1 (.slice (some ⟨w1.heap.size, 0, none⟩) 0 0) 0 [] := World.ownsRow_lit w1 #[] 0 hb1.size (by unfold maxLen; omega) rfl; have hb1a := hb1.alloc hb1.size (.cells #[] 5))
    | (at_builtin; go_loud (refine wpList_append_sl rfl (.tmp 23) (.tmp 24) 22 rfl w.heap.size 5 i0 _ 1 Tryd.underlying22 hi hz0 hz1 hz2 rfl _ 0 [] rfl hown1 A key.length c (byts key) rfl (length_byts _).symm (hs.later (Nat.le_refl _) hb1a) (byts_one _) n1 n2 hb1a.size ?_; intro v5 w5 hown5 hg5; have hb5 : Below w.heap.size w w5 := hb1a.grown hg5 hb1a.size (fun k hk => (hown1.lt k hk).1); rw [Nat.zero_add, List.nil_append] at hown5; obtain ⟨A5, c5, rfl, _, hsl5⟩ := Sl.of_own hown5; clear hg5 hown1 hb1a hb1))
    | (go_at_call 6; refine (mnew_any A5 key.length c5 key _ (hT.later hb5 (Nat.le_refl _)) hsl5 rfl (by omega)).mono ?_; rintro e w6 ⟨g, gi, go, rfl, hgi, hgo, hd6, hb6⟩; have hown6 := own_later hown5 hb6 (Nat.le_refl _)))
  have hbA := hb5.trans (hb6.mono hb5.size)
  have h5w := hb5.size
  have hkm : key.length ≤ 35184372088832 := by omega
  clear hb6 hsl5 n1 n2
  go_loopw [32] (fun i wq => ∃ (j : Nat) (ys : List UInt8), j ≤ key.length ∧ i = .int .i64 j ∧ ys.length = key.length ∧ wq.ownsRow w.heap.size 5 1 (.slice A5 key.length c5) key.length (byts ys) ∧ Macd wq g gi go key [] ∧ Below w.heap.size w wq) (fun i _ => key.length - (intOf i).toNat)
  case atStart => exact ⟨0, key, by omega, rfl, rfl, hown6, hd6, hbA⟩
  case round =>
    clear hown6 hd6 hbA
    obtain ⟨j, ys, hj, rfl, hyl, hown, hd, hbq⟩ := hrel
    by_cases hltj : j < key.length
    · obtain ⟨g5, cap5, he, _, _⟩ := hown.form (by omega)
      injection he with he1 he2 he3
      have hgl5 : g5 < w5.heap.size := (hown5.lt g5 (by rw [he1]; rfl)).2
      have hixj := index_own A5 g5 key.length c5 j he1 hltj
      rw [he1, he3] at hown
      obtain ⟨zs, hrow⟩ := Row.of_own hown
      have cj : wr.cell? ⟨g5, j, none⟩ = some (.int .u8 ((ys.getD j 0).toNat : Int)) := by
        rw [hrow.cell, List.getElem?_append_left (by rw [length_byts]; omega), get_byts _ _ (by omega)]
      have fj := hrow.free j
      obtain ⟨y, hy⟩ := u8_next (ys.getD j 0)
      generalize (ys.getD j 0).toNat = x at *
      have H1 := Lib.hid he1
      have H3 := Lib.hid he3
      clear he1 he2 he3 hrow
      have hyl' := Lib.hid hyl
      clear hyl
      go_wp2_with fail
      go_roundw
      case rel =>
        have q1 := hd.gi_lt
        refine ⟨j + 1, ys.set j y, by omega, by go_num, by rw [List.length_set]; exact hyl'.out, ?_, hd.grown (grown_setCell _ _ _ _) (by omega) (by omega) (by omega), hbq.setCell (by have := (hown.lt g5 rfl).1; exact this) _⟩
        have h := own_set hown j (.int .u8 (y.toNat : Int))
        rw [byts_set] at h
        rw [H1.out, H3.out]; exact h
      case measure => simp [intOf]; omega
    · obtain ⟨w7, rfl⟩ : ∃ w7 : World, w7 = wr := ⟨_, rfl⟩
      have hown7 : (w7.alloc (.cells #[] 5)).ownsRow w7.heap.size 5 1 (.slice (some ⟨w7.heap.size, 0, none⟩) 0 0) 0 [] := World.ownsRow_lit w7 #[] 0 (Nat.le_refl _) (by unfold maxLen; omega) rfl
      have hb7 := hbq.alloc hbq.size (.cells #[] 5)
      have hd7 := hd.later ((Below.refl w7.heap.size w7).alloc (Nat.le_refl _) (.cells #[] 5)) hd.lt
      have hg7 := hd.lt
      have hgi7 := hd.gi_lt
      have hz7 : w7.heap.size ≤ (w7.alloc (.cells #[] 5)).heap.size := by rw [World.size_alloc]; omega
      have h7w := hbq.size
      clear hown hown5 hd hbq hb5 hyl
      go_wp2_with fail
      go_loopw [8, 45] (fun v i wr => ∃ k : Nat, k ≤ ps.length ∧ i = .int .i64 k ∧ wr.ownsRow w7.heap.size 5 1 v (flat (ps.take k)).length (byts (flat (ps.take k))) ∧ (flat (ps.take k)).length ≤ 150 * k ∧ Macd wr g gi go key (flat (ps.take k)) ∧ w7.heap.size ≤ wr.heap.size ∧ Below w.heap.size w wr) (fun _ i _ => ps.length - (intOf i).toNat)
      case atStart => exact ⟨0, by omega, rfl, hown7, by simp [flat], hd7, hz7, hb7⟩
      case round =>
        clear hown7 hb7 hd7 hz7
        obtain ⟨k, hk, rfl, hown, hF, hd, hz, hb⟩ := hrel
        by_cases hlt : k < ps.length
        · obtain ⟨b, o, hA, _, _⟩ := hp.sl.rd.get (i := 0) (by rw [List.length_map]; omega)
          have hix := index_parts B b o ps.length d k hA hlt
          have hps := hp.later (Nat.le_refl _) hb
          rw [hA] at hps
          have hck := hps.get k hlt
          have hsw := hp.each ps[k] (List.getElem_mem hlt)
          have hle := hpe ps[k] (List.getElem_mem hlt)
          have HS := Lib.hid (flat_succ ps k hlt)
          unfold partV at hck
          obtain ⟨⟨Ak, ck, lk⟩, hpk⟩ : ∃ p, p = ps[k] := ⟨_, rfl⟩
          rw [← hpk] at hck hsw HS hle
          dsimp only at hck hsw HS hle
          have HA := Lib.hid hA
          clear hpk hps hA
          generalize flat (ps.take k) = F at *
          by_cases h150 : 150 < lk.length
          · go_wp2_with fail
            go_ret
            exact ⟨rfl, hb⟩
          · have h150' : lk.length ≤ 150 := by omega
            have hFb : F.length ≤ 1500 := by omega
            clear h150
            obtain ⟨G, hG⟩ : ∃ G, G = F ++ lk := ⟨_, rfl⟩
            have hGl : F.length + lk.length = G.length := by rw [hG, List.length_append]
            have hGb : G.length ≤ 5000 := by omega
            have bG := Lib.hid (show byts F ++ byts lk = byts G by rw [hG, byts_append])
            have HG := Lib.hid hG
            have HGL := Lib.hid hGl
            have n1 : F.length + lk.length ≤ maxLen := by unfold maxLen; omega
            have n2 : (F.length + lk.length) * 1 ≤ 140737488355328 := by omega
            obtain ⟨X, hX⟩ : ∃ X, X = byts (macL key G) := ⟨_, rfl⟩
            have hsum := Lib.hid (show ∀ w', Cube w' → Macd w' g gi go key G → Calls Tryd.prog 8 #[.pointer (some ⟨g, 0, none⟩)] w' fun e w'' => e = .returned (.agg X.toArray) ∧ Below w'.heap.size w' w'' from fun w' h1 h2 => by rw [hX]; exact msum_any g gi go key G w' h1 h2 (by omega))
            have hXl : X.length = 32 := by rw [hX]; exact store_tag
            have hone := Lib.hid (all_one (show ∀ v ∈ X, v.oneCell' = true by rw [hX]; exact byts_one _))
            have hsz := Lib.hid (show (Tryd.prog.info? 29).map (·.size) = some X.toArray.size by rw [size_tag, List.size_toArray, hXl])
            have h32 := Lib.hid (show 32 = X.toArray.size by rw [List.size_toArray, hXl])
            have hszL := Lib.hid (show (Tryd.prog.info? 29).map (·.size) = some X.length by rw [size_tag, hXl])
            have HX := Lib.hid hX
            have tok2 : True := trivial
            have hsk := hsw.later (Nat.le_refl _) hb
            clear hX hXl hG hGl
            go_wp2_with (first
              | (at_builtin; refine wpList_append_sl rfl (.tmp 52) (.tmp 53) 22 rfl w7.heap.size 5 i0 _ 1 Tryd.underlying22 hi hz0 hz1 hz2 rfl _ F.length (byts F) rfl hown Ak lk.length ck (byts lk) rfl (length_byts _).symm hsk (byts_one _) n1 n2 hz ?_; intro v8 w8 hown8 hg8; have hb8 : Below w7.heap.size wr w8 := (Below.refl w7.heap.size wr).grown hg8 hz (fun k hk => (hown.lt k hk).1); rw [bG.out, HGL.out] at hown8; obtain ⟨A8, c8, rfl, _, hsl8⟩ := Sl.of_own hown8; have hbw8 := hb.trans (hb8.mono h7w); have hd8 := hd.later hb8 hg7; have hsk8 := hsw.later (Nat.le_refl _) hbw8; clear hg8)
              | (go_at_call 7; refine (mwrite_any g gi go lk.length key F lk Ak ck _ (hT.cu.later hbw8 (Nat.le_refl _)) hd8 hsk8 (fun h a ha => by have := hsw.block_lt (by rw [length_byts]; exact h) ha; omega) rfl (by omega)).mono ?_; rw [← HG.out]; rintro e w9 ⟨rfl, hd9, hg9⟩; have hbw9 := hbw8.grown hg9 hbw8.size (fun k h => by cases h; omega); have hown9 := own_grown hown8 hg9 (by omega))
              | (go_at_call 8; have _t := tok2; refine (hsum.out w9 (hT.cu.later hbw9 (Nat.le_refl _)) hd9).mono ?_; rintro e w10 ⟨rfl, hb10⟩; clear tok2)
              | (with_reducible refine wpList_store_row rfl 29 (.tmp 11) (.tmp 59) rfl w10.heap.size X.toArray rfl rfl 29 _ (heap_alloc_new w10 _) hsz.out (Eq.trans (by kernel_rfl) h32.out) hone.out ?_; refine Hid.out ?_))
            refine Lib.hid ?_
            generalize hw14 : World.setRow _ _ _ = w14
            obtain ⟨rx, hb14⟩ := row_new_set (xs := X) hw14
            have hb914 := below_step hb10 hb14
            have hbw14 := hbw9.trans (hb914.mono hbw9.size)
            have hd14 := hd9.later hb914 hd9.lt
            have hown14 := own_later hown9 hb914 (Nat.le_refl _)
            have hz14 : w7.heap.size ≤ w14.heap.size := by
              have e1 := hb8.size
              have e2 := hg9.size
              have e3 := hb914.size
              omega
            have hslX : Sl w14 (some ⟨w10.heap.size, 0, none⟩) 32 (byts (macL key G)) := by
              rw [← HX.out]
              exact ⟨Rd.row (ys := []) (by rw [List.append_nil]; exact rx), by rw [HX.out, length_byts]; exact Nat.le_refl _, fun h => by cases h⟩
            have hcvX := conv_later hslX 32 rfl
            obtain ⟨A8', c8', he8, _, hsG⟩ := Sl.of_own hown14
            cases he8
            have hsK := hs.later (Nat.le_refl _) hbw14
            have hTc := hT.cu.later hbw14 (Nat.le_refl _)
            obtain ⟨j0, hj0, _, _, _⟩ := info_parts infoByte
            have hE : ∀ w, (Op.equalIn 10000 29 (.agg X.toArray) (.agg X.toArray)).run Tryd.prog w = .ok true w := by
              intro w
              rw [HX.out, run_eq_bytes 29 32 j0 Tryd.underlying29 hj0 (macL key G) (macL key G) rfl rfl w]; simp
            have hG2 := Lib.hid (show 64 + G.length ≤ 35184372088832 by omega)
            clear hw14 hb14 hb10 hb914 hd9 hown9 hg9 hbw9 hbw8 hd8 hsk8 hsl8 hown8 hb8 hd hown hck hix hslX hb hsk
            go_wp2_with fail
            refine wp_region_noPanic ?_
            refine wp_region_held_drew (S := fun w' => Below w14.heap.size w14 w') (by kernel_rfl) ((Below.refl _ _).drew) (fun hHeld => ?_)
            have hAll := hHeld
            refine rtake 0 _ (some 60) _ rfl rfl (by kernel_rfl) (by kernel_rfl) (by kernel_rfl) (fun _ _ _ h => h) (by rfl) hHeld (by intro w hS; go_simp; try with_reducible rfl) ?_
            try (rw [put_some]; dsimp only [List.set])
            refine rtake 1 _ (some 61) _ rfl rfl (by kernel_rfl) (by kernel_rfl) (by kernel_rfl) (fun _ _ _ h => h) (by rfl) hHeld (by intro w hS; go_simp; try with_reducible rfl) ?_
            try (rw [put_some]; dsimp only [List.set])
            refine rtake 2 _ (some 62) _ rfl rfl (by kernel_rfl) (by kernel_rfl) (by kernel_rfl) (fun _ _ _ h => h) (by rfl) hHeld (by intro w hS; go_simp; try with_reducible rfl) ?_
            try (rw [put_some]; dsimp only [List.set])
            refine rtake 3 _ (some 63) _ rfl rfl (by kernel_rfl) (by kernel_rfl) (by kernel_rfl) (fun _ _ _ h => h) (by rfl) hHeld (by intro w hS; go_simp; try with_reducible rfl) ?_
            try (rw [put_some]; dsimp only [List.set])
            refine wpAnyH_ready (rs := [4]) (by kernel_rfl) (by simp) (AllReadyH.cons (o := _) rfl (fun K hK => ?_) AllReadyH.nil)
            go_simp
            refine (rmac_any A key.length c key A8 G.length c8 G _ (hsK.later (Nat.le_refl _) hHeld) rfl hkm (hsG.later (Nat.le_refl _) hHeld) rfl hG2.out).mono ?_; rintro e w15 ⟨v15, rfl, hown15, hb15⟩; obtain ⟨A15, c15, rfl, _, hsl15⟩ := Sl.of_own hown15; have hcv15 := conv_later hsl15 _ rfl; clear hown15
            try go_wp2_with fail
            refine hK.out _ _ (below_step hHeld hb15) (fun _ => ?_)
            clear hK K
            try (rw [put_some]; dsimp only [List.set])
            have hAll := below_step hAll hb15
            refine wpAnyH_narrow (S' := fun w' => Below w15.heap.size w15 w') (fun _ h => below_step (below_step hHeld hb15) h) _ _ _ _ ?_
            clear hHeld
            have hHeld : Below w15.heap.size w15 w15 := Below.refl _ _
            refine rtake 5 _ (some 65) _ rfl rfl (by kernel_rfl) (by kernel_rfl) (by kernel_rfl) (fun _ _ _ h => h) (by rfl) hHeld (by intro w hS; go_simp; try with_reducible rfl) ?_
            try (rw [put_some]; dsimp only [List.set])
            refine rtake 6 _ (some 66) _ rfl rfl (by kernel_rfl) (by kernel_rfl) (by kernel_rfl) (fun _ _ _ h => h) (by rfl) hHeld (by intro w hS; go_simp; try with_reducible rfl) ?_
            try (rw [put_some]; dsimp only [List.set])
            refine rtake 7 _ (some 67) _ rfl rfl (by kernel_rfl) (by kernel_rfl) (by kernel_rfl) (fun _ _ _ h => h) (by rfl) hHeld (by intro w hS; go_simp; try with_reducible rfl) ?_
            try (rw [put_some]; dsimp only [List.set])
            refine rtake 8 _ (some 68) _ rfl rfl (by kernel_rfl) (by kernel_rfl) (by kernel_rfl) (fun _ _ _ h => h) (by rfl) hHeld (by intro w hS; go_simp; try with_reducible rfl) ?_
            try (rw [put_some]; dsimp only [List.set])
            refine rtake 10 _ (some 70) _ rfl rfl (by kernel_rfl) (by kernel_rfl) (by kernel_rfl) (fun _ _ _ h => h) (by rfl) hHeld (by intro w hS; exact run_load_op 29 (.tmp 11) rfl w10.heap.size 0 rfl X _ (row_range ((rx.later hAll rx.lt).later hS (rx.later hAll rx.lt).lt)) Tryd.underlying29 rfl hszL.out) ?_
            try (rw [put_some]; dsimp only [List.set])
            refine wpAnyH_ready (rs := [9]) (by kernel_rfl) (by simp) (AllReadyH.cons (o := _) rfl (fun K hK => ?_) AllReadyH.nil)
            go_simp
            refine (hsum.out w15 (hTc.later hAll (Nat.le_refl _)) (hd14.later hAll hd14.lt)).mono ?_; rintro e w16 ⟨rfl, hb16⟩
            try go_wp2_with fail
            refine hK.out _ _ (below_step hHeld hb16) (fun _ => ?_)
            clear hK K
            try (rw [put_some]; dsimp only [List.set])
            have hAll := below_step hAll hb16
            refine wpAnyH_narrow (S' := fun w' => Below w16.heap.size w16 w') (fun _ h => below_step (below_step hHeld hb16) h) _ _ _ _ ?_
            clear hHeld
            have hHeld : Below w16.heap.size w16 w16 := Below.refl _ _
            refine rtake 11 _ (some 71) _ rfl rfl (by kernel_rfl) (by kernel_rfl) (by kernel_rfl) (fun _ _ _ h => h) (by rfl) hHeld (by intro w hS; go_simp; try with_reducible rfl) ?_
            try (rw [put_some]; dsimp only [List.set])
            refine rtake 12 _ (some 72) _ rfl rfl (by kernel_rfl) (by kernel_rfl) (by kernel_rfl) (fun _ _ _ h => h) (by rfl) hHeld (by intro w hS; go_simp; try with_reducible rfl) ?_
            try (rw [put_some]; dsimp only [List.set])
            refine wpAnyH_done (by kernel_rfl) ?_ _
            refine NoPanic.normal ?_
            have hbw16 := hbw14.trans (hAll.mono hbw14.size)
            have hd16 := hd14.later hAll hd14.lt
            have hown16 := own_later hown14 hAll (Nat.le_refl _)
            have EG := Lib.hid (HG.out.trans HS.out.symm)
            have hF16 : (flat (ps.take (k + 1))).length ≤ 150 * (k + 1) := by rw [HS.out, List.length_append]; omega
            have hz16 := Nat.le_trans hz14 hAll.size
            clear hAll hHeld hE hcvX hcv15 hsum hsl15 hb15 hb16 rx hsG hsK hTc hd14 hown14
            go_wp2_with fail
            go_roundw
            case rel => exact ⟨k + 1, by omega, by go_num, by rw [← EG.out]; exact hown16, hF16, by rw [← EG.out]; exact hd16, hz16, hbw16⟩
            case measure => simp [intOf]; omega
        · rw [flat_all ps k (by omega)] at hown hF hd
          obtain ⟨G, hG⟩ : ∃ G, G = flat ps := ⟨_, rfl⟩
          rw [← hG] at hown hF hd
          have hGb : G.length ≤ 5000 := by omega
          have HG := Lib.hid hG
          obtain ⟨X, hX⟩ : ∃ X, X = byts (macL key G) := ⟨_, rfl⟩
          have hof := Lib.hid (show Calls Tryd.prog 10 #[.slice A key.length c, .slice B ps.length d] wr fun e w' => e = .returned (.agg X.toArray) ∧ Below wr.heap.size wr w' by rw [hX, hG]; exact mof_any A key.length c key B ps.length d ps wr (hT.later hb (Nat.le_refl _)) (hs.later (Nat.le_refl _) hb) rfl (hp.later (Nat.le_refl _) hb) rfl (by omega) (by rw [← hG]; omega) hpl)
          have hsum := Lib.hid (show ∀ w', Cube w' → Macd w' g gi go key G → Calls Tryd.prog 8 #[.pointer (some ⟨g, 0, none⟩)] w' fun e w'' => e = .returned (.agg X.toArray) ∧ Below w'.heap.size w' w'' from fun w' h1 h2 => by rw [hX]; exact msum_any g gi go key G w' h1 h2 (by omega))
          have hXl : X.length = 32 := by rw [hX]; exact store_tag
          have hone := Lib.hid (all_one (show ∀ v ∈ X, v.oneCell' = true by rw [hX]; exact byts_one _))
          have hsz := Lib.hid (show (Tryd.prog.info? 29).map (·.size) = some X.toArray.size by rw [size_tag, List.size_toArray, hXl])
          have h32 := Lib.hid (show 32 = X.toArray.size by rw [List.size_toArray, hXl])
          have hszL := Lib.hid (show (Tryd.prog.info? 29).map (·.size) = some X.length by rw [size_tag, hXl])
          have HX := Lib.hid hX
          obtain ⟨A8, c8, rfl, _, hsl8⟩ := Sl.of_own hown
          clear hX hXl hG hF hsl8
          go_wp2_with (first
            | (go_at_call 10; refine hof.out.mono ?_; rintro e w10 ⟨rfl, hb10⟩)
            | (with_reducible refine wpList_store_row rfl 29 (.tmp 12) (.tmp 76) rfl w10.heap.size X.toArray rfl rfl 29 _ (heap_alloc_new w10 _) hsz.out (Eq.trans (by kernel_rfl) h32.out) hone.out ?_; refine Hid.out ?_))
          refine Lib.hid ?_
          generalize hw14 : World.setRow _ _ _ = w14
          obtain ⟨rx, hb14⟩ := row_new_set (xs := X) hw14
          have hbr14 := below_step hb10 hb14
          have hbw14 := hb.trans (hbr14.mono hb.size)
          have hd14 := hd.later hbr14 hd.lt
          have hown14 := own_later hown hbr14 (Nat.le_refl _)
          have hslX : Sl w14 (some ⟨w10.heap.size, 0, none⟩) 32 (byts (macL key G)) := by
            rw [← HX.out]
            exact ⟨Rd.row (ys := []) (by rw [List.append_nil]; exact rx), by rw [HX.out, length_byts]; exact Nat.le_refl _, fun h => by cases h⟩
          have hcvX := conv_later hslX 32 rfl
          obtain ⟨A8', c8', he8, _, hsG⟩ := Sl.of_own hown14
          cases he8
          have hsK := hs.later (Nat.le_refl _) hbw14
          have hTc := hT.cu.later hbw14 (Nat.le_refl _)
          obtain ⟨j0, hj0, _, _, _⟩ := info_parts infoByte
          have hE : ∀ w, (Op.equalIn 10000 29 (.agg X.toArray) (.agg X.toArray)).run Tryd.prog w = .ok true w := by
            intro w
            rw [HX.out, run_eq_bytes 29 32 j0 Tryd.underlying29 hj0 (macL key G) (macL key G) rfl rfl w]; simp
          have hG2 := Lib.hid (show 64 + G.length ≤ 35184372088832 by omega)
          clear hw14 hb14 hb10 hbr14 hd hown hslX hb hof
          go_wp2_with fail
          refine wp_region_noPanic ?_
          refine wp_region_held_drew (S := fun w' => Below w14.heap.size w14 w') (by kernel_rfl) ((Below.refl _ _).drew) (fun hHeld => ?_)
          have hAll := hHeld
          refine rtake 0 _ (some 77) _ rfl rfl (by kernel_rfl) (by kernel_rfl) (by kernel_rfl) (fun _ _ _ h => h) (by rfl) hHeld (by intro w hS; go_simp; try with_reducible rfl) ?_
          try (rw [put_some]; dsimp only [List.set])
          refine rtake 1 _ (some 78) _ rfl rfl (by kernel_rfl) (by kernel_rfl) (by kernel_rfl) (fun _ _ _ h => h) (by rfl) hHeld (by intro w hS; go_simp; try with_reducible rfl) ?_
          try (rw [put_some]; dsimp only [List.set])
          refine rtake 2 _ (some 79) _ rfl rfl (by kernel_rfl) (by kernel_rfl) (by kernel_rfl) (fun _ _ _ h => h) (by rfl) hHeld (by intro w hS; go_simp; try with_reducible rfl) ?_
          try (rw [put_some]; dsimp only [List.set])
          refine rtake 3 _ (some 80) _ rfl rfl (by kernel_rfl) (by kernel_rfl) (by kernel_rfl) (fun _ _ _ h => h) (by rfl) hHeld (by intro w hS; go_simp; try with_reducible rfl) ?_
          try (rw [put_some]; dsimp only [List.set])
          refine wpAnyH_ready (rs := [4]) (by kernel_rfl) (by simp) (AllReadyH.cons (o := _) rfl (fun K hK => ?_) AllReadyH.nil)
          go_simp
          refine (rmac_any A key.length c key A8 G.length c8 G _ (hsK.later (Nat.le_refl _) hHeld) rfl hkm (hsG.later (Nat.le_refl _) hHeld) rfl hG2.out).mono ?_; rintro e w15 ⟨v15, rfl, hown15, hb15⟩; obtain ⟨A15, c15, rfl, _, hsl15⟩ := Sl.of_own hown15; have hcv15 := conv_later hsl15 _ rfl; clear hown15
          try go_wp2_with fail
          refine hK.out _ _ (below_step hHeld hb15) (fun _ => ?_)
          clear hK K
          try (rw [put_some]; dsimp only [List.set])
          have hAll := below_step hAll hb15
          refine wpAnyH_narrow (S' := fun w' => Below w15.heap.size w15 w') (fun _ h => below_step (below_step hHeld hb15) h) _ _ _ _ ?_
          clear hHeld
          have hHeld : Below w15.heap.size w15 w15 := Below.refl _ _
          refine rtake 5 _ (some 82) _ rfl rfl (by kernel_rfl) (by kernel_rfl) (by kernel_rfl) (fun _ _ _ h => h) (by rfl) hHeld (by intro w hS; go_simp; try with_reducible rfl) ?_
          try (rw [put_some]; dsimp only [List.set])
          refine rtake 6 _ (some 83) _ rfl rfl (by kernel_rfl) (by kernel_rfl) (by kernel_rfl) (fun _ _ _ h => h) (by rfl) hHeld (by intro w hS; go_simp; try with_reducible rfl) ?_
          try (rw [put_some]; dsimp only [List.set])
          refine rtake 7 _ (some 84) _ rfl rfl (by kernel_rfl) (by kernel_rfl) (by kernel_rfl) (fun _ _ _ h => h) (by rfl) hHeld (by intro w hS; go_simp; try with_reducible rfl) ?_
          try (rw [put_some]; dsimp only [List.set])
          refine rtake 8 _ (some 85) _ rfl rfl (by kernel_rfl) (by kernel_rfl) (by kernel_rfl) (fun _ _ _ h => h) (by rfl) hHeld (by intro w hS; go_simp; try with_reducible rfl) ?_
          try (rw [put_some]; dsimp only [List.set])
          refine rtake 10 _ (some 87) _ rfl rfl (by kernel_rfl) (by kernel_rfl) (by kernel_rfl) (fun _ _ _ h => h) (by rfl) hHeld (by intro w hS; exact run_load_op 29 (.tmp 12) rfl w10.heap.size 0 rfl X _ (row_range ((rx.later hAll rx.lt).later hS (rx.later hAll rx.lt).lt)) Tryd.underlying29 rfl hszL.out) ?_
          try (rw [put_some]; dsimp only [List.set])
          refine wpAnyH_ready (rs := [9]) (by kernel_rfl) (by simp) (AllReadyH.cons (o := _) rfl (fun K hK => ?_) AllReadyH.nil)
          go_simp
          refine (hsum.out w15 (hTc.later hAll (Nat.le_refl _)) (hd14.later hAll hd14.lt)).mono ?_; rintro e w16 ⟨rfl, hb16⟩
          try go_wp2_with fail
          refine hK.out _ _ (below_step hHeld hb16) (fun _ => ?_)
          clear hK K
          try (rw [put_some]; dsimp only [List.set])
          have hAll := below_step hAll hb16
          refine wpAnyH_narrow (S' := fun w' => Below w16.heap.size w16 w') (fun _ h => below_step (below_step hHeld hb16) h) _ _ _ _ ?_
          clear hHeld
          have hHeld : Below w16.heap.size w16 w16 := Below.refl _ _
          refine rtake 11 _ (some 88) _ rfl rfl (by kernel_rfl) (by kernel_rfl) (by kernel_rfl) (fun _ _ _ h => h) (by rfl) hHeld (by intro w hS; go_simp; try with_reducible rfl) ?_
          try (rw [put_some]; dsimp only [List.set])
          refine rtake 12 _ (some 89) _ rfl rfl (by kernel_rfl) (by kernel_rfl) (by kernel_rfl) (fun _ _ _ h => h) (by rfl) hHeld (by intro w hS; go_simp; try with_reducible rfl) ?_
          try (rw [put_some]; dsimp only [List.set])
          refine rtake 13 _ (some 4) _ rfl rfl (by kernel_rfl) (by kernel_rfl) (by kernel_rfl) (fun _ _ _ h => h) (by rfl) hHeld (by intro w hS; go_simp; try with_reducible rfl) ?_
          try (rw [put_some]; dsimp only [List.set])
          refine wpAnyH_done (by kernel_rfl) ?_ _
          refine NoPanic.normal ?_
          have hbw16 := hbw14.trans (hAll.mono hbw14.size)
          clear hAll hHeld hE hcvX hcv15 hsum hsl15 hb15 hb16 rx hsG hsK hTc hd14 hown14
          go_wp2
          go_ret
          exact ⟨rfl, hbw16⟩
end Go.Proofs.YtaleakofpeacpaaDoor
