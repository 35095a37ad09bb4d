/- Texts of this claim, one behind the other. -/
import Derived.Test.YtnkkgclmmaakgaaDoorRbaj
import Derived.Test.YtnkkgclmmaakgaaDoorRbai
import Derived.Test.YtnkkgclmmaakgaaDoorRbab
import Derived.Test.YtnkkgclmmaakgaaDoorRbad
import Derived.Deep.DeepCutAuto
/- LAYER 4: package hmac's Of. -/
namespace Go.Proofs.YtnkkgclmmaakgaaDoor
set_option maxRecDepth 100000
open Go Go.RowKit

set_option maxRecDepth 100000 in
set_option maxHeartbeats 1000000 in
theorem mof_any (A : Option Addr) (n c : Nat) (K : List UInt8) (B : Option Addr) (m d : Nat) (ps : List Part) (w : World) (hT : Tabs w) (hs : Sl w A c (byts K)) (hn : n = K.length) (hp : Parts w B d ps) (hmn : m = ps.length)
    (hK : K.length ≤ 2305843009213693952) (hm : 64 + (flat ps).length ≤ 2305843009213693952) (hpl : ps.length ≤ 9223372036854775807) :
    Calls Tryd.prog 27 #[.slice A n c, .slice B m d] w fun e w' => e = .returned (.agg (byts (macL K (flat ps))).toArray) ∧ Below w.heap.size w w' := by
  subst hmn
  have hb0 := (Below.refl w.heap.size w).alloc (Nat.le_refl _) (.cells (List.replicate 32 (Value.int .u8 0)).toArray 23)
  have hnew := Lib.hid (mnew_any A n c K _ (hT.later hb0 (Nat.le_refl _)) (hs.later (Nat.le_refl _) hb0) hn hK)
  have HB0 := Lib.hid hb0
  clear hs hn hK hb0
  go_enter Tryd.func27, Tryd.ntmps27
  go_wp2_with (go_at_call 38; refine hnew.out.mono ?_; rintro e w1 ⟨g, gi, go, rfl, hgi, hgo, hd1, hb1⟩; have hbA : Below w.heap.size w w1 := HB0.out.trans (hb1.mono HB0.out.size); have r0 := (Row.new w 23 (List.replicate 32 (.int .u8 0))).later hb1 (Row.new w 23 (List.replicate 32 (.int .u8 0))).lt; rw [World.size_alloc] at hgi hgo; clear hb1 hnew)
  go_loopw [12] (fun i wr => ∃ k : Nat, k ≤ ps.length ∧ i = .int .i64 k ∧ Macd wr g gi go K (flat (ps.take k)) ∧ Row wr w.heap.size 23 (List.replicate 32 (.int .u8 0)) ∧ Below w.heap.size w wr) (fun i _ => ps.length - (intOf i).toNat)
  case atStart => exact ⟨0, by omega, rfl, hd1, r0, hbA⟩
  case round =>
    clear hd1 r0 hbA
    obtain ⟨k, hk, rfl, hd, r0, hb⟩ := hrel
    by_cases hlt : k < ps.length
    · obtain ⟨b, o, hA, _, _⟩ := hp.sl.rd.get (i := 0) (by rw [List.length_map]; omega)
      have hix := index_parts B b o ps.length d k hA hlt
      have hps := hp.later (Nat.le_refl _) hb
      rw [hA] at hps
      have hck := hps.get k hlt
      have hsk := hps.each ps[k] (List.getElem_mem hlt)
      have hsw := hp.each ps[k] (List.getElem_mem hlt)
      have HF := Lib.hid (flat_succ ps k hlt)
      have hfl := flat_le ps (k + 1)
      rw [HF.out, List.length_append] at hfl
      unfold partV at hck
      obtain ⟨⟨Ak, ck, lk⟩, hpk⟩ : ∃ p, p = ps[k] := ⟨_, rfl⟩
      rw [← hpk] at hck hsk hsw HF hfl
      dsimp only at hck hsk hsw HF hfl
      have hml : 64 + (flat (ps.take k)).length + lk.length ≤ 4611686018427387904 := by omega
      have HA := Lib.hid hA
      clear hpk hps hfl hA
      go_wp2_with (go_at_call 39; refine (mwrite_any g gi go lk.length K (flat (ps.take k)) lk Ak ck _ (hT.cu.later hb (Nat.le_refl _)) hd hsk (fun h a ha => by have := hsw.block_lt (by rw [length_byts]; exact h) ha; omega) rfl hml).mono ?_; rintro e w3 ⟨rfl, hd3, hg3⟩)
      have hb3 := hb.grown hg3 hb.size (fun k h => by cases h; omega)
      have r3 := r0.grown hg3 (by omega)
      clear hd hb r0 hg3 hck hsk hsw hix
      go_roundw
      case rel => exact ⟨k + 1, by omega, by go_num, by rw [HF.out]; exact hd3, r3, hb3⟩
      case measure => simp [intOf]; omega
    · rw [flat_all ps k (by omega)] at hd
      have hC := hT.cu.later hb (Nat.le_refl _)
      obtain ⟨V, hVq⟩ : ∃ V, V = byts (macL K (flat ps)) := ⟨_, rfl⟩
      have hsum := Lib.hid (show Calls Tryd.prog 40 #[.pointer (some ⟨g, 0, none⟩)] wr fun e w' => e = .returned (.agg V.toArray) ∧ Below wr.heap.size wr w' by rw [hVq]; exact msum_any g gi go K (flat ps) wr hC hd hm)
      have hVl : V.length = 32 := by rw [hVq]; exact store_tag
      have hone := Lib.hid (all_one (show ∀ v ∈ V, v.oneCell' = true by rw [hVq]; exact byts_one _))
      have hsz := Lib.hid (show (Tryd.prog.info? 23).map (·.size) = some V.toArray.size by rw [size_tag, List.size_toArray, hVl])
      have hszo := Lib.hid (show (List.replicate 32 (Value.int .u8 0)).toArray.size = V.toArray.size by rw [List.size_toArray, List.size_toArray, List.length_replicate, hVl])
      have HV := Lib.hid hVq
      clear hVq hVl hC hd
      go_wp2_with (first
        | (go_at_call 40; refine hsum.out.mono ?_; rintro e w3 ⟨rfl, hb3⟩; have R0 := Lib.hid (show w3.heap[w.heap.size]? = some (.cells (List.replicate 32 (Value.int .u8 0)).toArray 23 (0, 0)) from r0.later hb3 r0.lt))
        | ((with_reducible refine wpList_store_row rfl 23 (.tmp 4) (.tmp 21) rfl w.heap.size V.toArray rfl rfl 23 _ R0.out hsz.out hszo.out hone.out ?_); have HG := Lib.hid (setRow_heap w3 w.heap.size _ V.toArray 23 (0, 0) R0.out))
        | (with_reducible refine bodyPost_ret (results_cell_row rfl _ _ w.heap.size 23 V.toArray (0, 0) (.array 32 5) rfl HG.out Tryd.underlying23 rfl hsz.out) rfl ?_))
      exact ⟨by rw [HV.out], below_setRow (hb.trans (hb3.mono hb.size)) (Nat.le_refl _) _⟩
end Go.Proofs.YtnkkgclmmaakgaaDoor

/- LAYER 6: package derive's Key. -/
namespace Go.Proofs.YtnkkgclmmaakgaaDoor
set_option maxRecDepth 100000
open Go Go.RowKit

theorem parts_pair {w : World} {A B : Option Addr} {c d : Nat} {l k : List UInt8} (h : Sl w A c (byts l)) (g : Sl w B d (byts k)) :
    Parts (w.alloc (.cells #[.slice A l.length c, .slice B k.length d] 53)) (some ⟨w.heap.size, 0, none⟩) 2 [(A, c, l), (B, d, k)] := by
  have r := Row.new w 53 [.slice A l.length c, .slice B k.length d]
  have hb := (Below.refl w.heap.size w).alloc (Nat.le_refl _) (.cells #[.slice A l.length c, .slice B k.length d] 53)
  refine ⟨⟨Rd.row (ys := []) (by rw [List.append_nil]; exact r), by simp, fun h => by cases h⟩, fun p hp => ?_⟩
  simp only [List.mem_cons, List.not_mem_nil, or_false] at hp
  rcases hp with rfl | rfl
  · exact h.later (Nat.le_refl _) hb
  · exact g.later (Nat.le_refl _) hb
set_option maxRecDepth 100000 in
set_option maxHeartbeats 1000000 in
theorem dkey_any (key : List UInt8) (hk : key.length = 32) (use : List UInt8) (A : Option Addr) (n c : Nat) (ss : List (List UInt8)) (w : World) (hT : Tabs w) (hs : Sl w A c (strsV ss)) (hn : n = ss.length) (hm : sumS (use :: ss) ≤ 1000000000) :
    Calls Tryd.prog 20 #[.agg (byts key).toArray, .string (bstr use), .slice A n c] w fun e w' => e = .returned (.agg (byts (keyD key use ss)).toArray) ∧ Below w.heap.size w w' := by
  subst hn
  have hFl := length_frameL (use :: ss)
  have hm1 : sumS [use] ≤ 1000000000 := by have := sumS_le (use :: ss) 1; rw [show (use :: ss).take 1 = [use] from rfl] at this; omega
  have hm2 : sumS ss ≤ 1000000000 := by have h2 : sumS (use :: ss) = use.length + 1 + sumS ss := rfl; omega
  obtain ⟨K, hK⟩ : ∃ K, K = byts key := ⟨_, rfl⟩
  have HK := Lib.hid hK
  have hKl : K.length = 32 := by rw [hK, length_byts]; exact hk
  obtain ⟨V, hV⟩ : ∃ V, V = byts (keyD key use ss) := ⟨_, rfl⟩
  have hVl : V.length = 32 := by rw [hV, length_byts]; exact length_keyD _ _ _
  have hone := Lib.hid (show ∀ v ∈ V, v.oneCell' = true by rw [hV]; exact byts_one _)
  have hszl := Lib.hid (show (Tryd.prog.info? 23).map (·.size) = some V.length by rw [size_tag, hVl])
  have hsz2 := Lib.hid (show (Tryd.prog.info? 23).map (·.size) = some V.toArray.size by rw [size_tag, List.size_toArray, hVl])
  have hfit := Lib.hid (show 0 + V.length ≤ (List.replicate 32 (Value.int .u8 0)).length by rw [hVl, List.length_replicate]; decide)
  have HVr := Lib.hid (show splice (List.replicate 32 (Value.int .u8 0)) 0 V = V by
    unfold splice
    rw [List.take_zero, List.nil_append, Nat.zero_add, hVl, List.drop_of_length_le (by rw [List.length_replicate]; exact Nat.le_refl _), List.append_nil])
  have hkl := Lib.hid hk
  obtain ⟨F1, hF1⟩ : ∃ F, F = frameL [use] := ⟨_, rfl⟩
  obtain ⟨F2, hF2⟩ : ∃ F, F = frameL ss := ⟨_, rfl⟩
  have hF12 := Lib.hid (show ∀ (A4 A5 : Option Addr) (c4 c5 : Nat), flat [(A4, c4, F1), (A5, c5, F2)] = frameL (use :: ss) by
    intros
    rw [hF1, hF2, show use :: ss = [use] ++ ss from rfl, frameL_append]
    simp [flat])
  have hFm := Lib.hid (show ∀ (A4 A5 : Option Addr) (c4 c5 : Nat), 64 + (flat [(A4, c4, F1), (A5, c5, F2)]).length ≤ 2305843009213693952 by
    intros
    rw [hF12.out _ _ _ _]; omega)
  have hf1 := Lib.hid (show ∀ w1 B d, Sl w1 B d (strsV [use]) → Calls Tryd.prog 28 #[.slice B 1 d] w1 (GaveBytes F1 w1) by
    rw [hF1]
    exact fun w1 B d h => dframe_any B 1 d [use] w1 h rfl hm1)
  have hf2 := Lib.hid (show ∀ w1, Sl w1 A c (strsV ss) → Calls Tryd.prog 28 #[.slice A ss.length c] w1 (GaveBytes F2 w1) by
    rw [hF2]
    exact fun w1 h => dframe_any A ss.length c ss w1 h rfl hm2)
  have HV := Lib.hid (show V = byts (macL key (frameL (use :: ss))) by rw [hV]; rfl)
  have HVD := Lib.hid hV
  rw [← hK]
  clear hV hVl hK hF1 hF2 hFl hk
  go_enter Tryd.func20, Tryd.ntmps20
  go_wp2_with fail
  generalize hw2 : World.alloc (World.alloc w _) _ = w2
  obtain ⟨r0, r1, hb2, _hs2⟩ := two_rows (A := K) (B := List.replicate 32 (.int .u8 0)) hw2
  clear hw2 _hs2
  have hsl2 := hs.later (Nat.le_refl _) hb2
  have hT2 := hT.later hb2 (Nat.le_refl _)
  have hslK : Sl w2 (some ⟨w.heap.size, 0, none⟩) 32 (byts key) := ⟨Rd.row (ys := []) (by rw [List.append_nil, ← HK.out]; exact r0), by rw [length_byts, hkl.out]; exact Nat.le_refl _, fun h => by cases h⟩
  clear r0 hs
  refine wp_region_noPanic ?_
  refine wp_region_held_drew (S := fun _ => True) (by kernel_rfl) (trivial) (fun hHeld => ?_)
  refine rt 0 7 hHeld ?_
  refine rt 1 8 hHeld ?_
  refine rt 4 11 hHeld ?_
  refine rc1 2 fun K hK => ?_
  refine step_alloc (some 9) rfl (by rfl) (.slice (some ⟨w2.heap.size, 0, none⟩) 1 1) (.cells #[.string (bstr use)] 9) (by go_simp) ?_; intro w3 hw3 hb3; have hsu : Sl w3 (some ⟨w2.heap.size, 0, none⟩) 1 (strsV [use]) := (by rw [hw3]; exact ⟨Rd.row (ys := []) (by rw [List.append_nil]; exact Row.new w2.drew 9 (strsV [use])), by rw [length_strsV]; exact Nat.le_refl _, fun h => by cases h⟩); have hb23 : Below w2.heap.size w2 w3 := (Below.refl w2.heap.size w2).drew.trans hb3; clear hw3
  refine rk hK (trivial) fun hHeld => ?_
  clear hK K
  refine rc1 3 fun K hK => ?_
  go_simp
  refine (hf1.out _ _ _ hsu).mono ?_; rintro e w4 ⟨v4, rfl, hown4, hb4⟩; obtain ⟨A4, c4, rfl, _, hsl4⟩ := Sl.of_own hown4; have hb24 := below_step hb23 hb4; clear hown4
  try go_wp2_with fail
  refine hK.out _ _ (trivial) (fun hHeld => ?_)
  clear hK K
  refine rc1 5 fun K hK => ?_
  go_simp
  refine (hf2.out _ (hsl2.later (Nat.le_refl _) hb24)).mono ?_; rintro e w5 ⟨v5, rfl, hown5, hb5⟩; obtain ⟨A5, c5, rfl, _, hsl5⟩ := Sl.of_own hown5; have hb25 := below_step hb24 hb5; clear hown5
  try go_wp2_with fail
  refine hK.out _ _ (trivial) (fun hHeld => ?_)
  clear hK K
  refine rc1 6 fun K hK => ?_
  refine step_alloc (some 13) rfl (by rfl) (.slice (some ⟨w5.heap.size, 0, none⟩) 2 2) (.cells #[.slice A4 F1.length c4, .slice A5 F2.length c5] 53) (by go_simp) ?_; intro w6 hw6 hb6; have hpt : Parts w6 (some ⟨w5.heap.size, 0, none⟩) 2 [(A4, c4, F1), (A5, c5, F2)] := (by rw [hw6]; exact parts_pair (hsl4.later (Nat.le_refl _) hb5) hsl5); have hb26 := below_step hb25 hb6; clear hw6
  refine rk hK (trivial) fun hHeld => ?_
  clear hK K
  refine rc1 7 fun K hK => ?_
  go_simp
  refine (mof_any (some ⟨w.heap.size, 0, none⟩) 32 32 key (some ⟨w5.heap.size, 0, none⟩) 2 2 [(A4, c4, F1), (A5, c5, F2)] _ (hT2.later hb26 (Nat.le_refl _)) (hslK.later (Nat.le_refl _) hb26) hkl.out.symm hpt rfl (by rw [hkl.out]; decide) (hFm.out _ _ _ _) (by simp)).mono ?_; rintro e w7 ⟨rfl, hb7⟩; have hb27 := below_step hb26 hb7; rw [hF12.out _ _ _ _, ← HV.out]
  try go_wp2_with fail
  refine hK.out _ _ (trivial) (fun hHeld => ?_)
  clear hK K
  refine rc1 8 fun K hK => ?_
  refine step_store_row none rfl (by rfl) 23 (.tmp 6) (.tmp 14) rfl (w.heap.size + 1) 0 23 _ V rfl rfl (r1.later hb27 r1.lt) hfit.out hszl.out hone.out ?_; intro w9 r9 hg9
  refine hK.out _ _ (trivial) (fun _ => ?_)
  clear hK K
  rw [put_none]
  refine wpAnyH_done (by kernel_rfl) ?_ _
  refine NoPanic.normal ?_
  have r9 : Row w9 (w.heap.size + 1) 23 V := by rw [HVr.out] at r9; exact r9
  have hb9 := (hb2.trans (hb27.mono hb2.size)).grown hg9 (Nat.le_trans hb2.size hb27.size) (fun k h => by cases h; omega)
  have R9 := Lib.hid (show w9.heap[w.heap.size + 1]? = some (.cells V.toArray 23 (0, 0)) from r9)
  clear r9 hg9 r1 hslK hsl2 hsu hsl4 hsl5 hpt hb3 hb4 hb5 hb6 hb7 hb23 hb24 hb25 hb26 hb27 hb2
  go_wp2_with (with_reducible refine bodyPost_ret (results_cell_row rfl _ _ (w.heap.size + 1) 23 V.toArray (0, 0) (.array 32 5) rfl R9.out Tryd.underlying23 rfl hsz2.out) rfl ?_)
  exact ⟨by rw [HVD.out], hb9⟩
end Go.Proofs.YtnkkgclmmaakgaaDoor

/- LAYER 21: package bind: Tag. -/
namespace Go.Proofs.YtnkkgclmmaakgaaDoor
set_option maxRecDepth 100000
open Go Go.RowKit

set_option maxHeartbeats 4000000 in
theorem btag_T (key : List UInt8) (hk : key.length = 32) (en : List UInt8) (hen : en.length = 32) (w : World) (hT : Tabs w) :
    Calls Tryd.prog 11 #[.agg (byts key).toArray, .agg (byts en).toArray] w fun e w' => e = .returned (.agg (byts (bindG key en)).toArray) ∧ Below w.heap.size w w' := by
  have hKl := tag_fit key hk
  have hkz := Lib.hid (show (Tryd.prog.info? 23).map (·.size) = some (byts key).length by rw [size_tag, hKl])
  obtain ⟨V, hV⟩ : ∃ V, V = byts (bindG key en) := ⟨_, rfl⟩
  have hVl : V.length = 32 := by rw [hV]; exact tag_fit _ (length_keyD _ _ _)
  have hone := Lib.hid (show ∀ v ∈ V, v.oneCell' = true by rw [hV]; exact byts_one _)
  have hszl := Lib.hid (show (Tryd.prog.info? 23).map (·.size) = some V.length by rw [size_tag, hVl])
  have hsz2 := Lib.hid (show (Tryd.prog.info? 23).map (·.size) = some V.toArray.size by rw [size_tag, List.size_toArray, hVl])
  have hfit := Lib.hid (show 0 + V.length ≤ (List.replicate 32 (Value.int .u8 0)).length by rw [hVl, List.length_replicate]; decide)
  have HVr := Lib.hid (show splice (List.replicate 32 (Value.int .u8 0)) 0 V = V by
    unfold splice
    rw [List.take_zero, List.nil_append, Nat.zero_add, hVl, List.drop_eq_nil_of_le (by simp), List.append_nil])
  have HV := Lib.hid hV
  have he := Lib.hid hen
  clear hV hVl hKl hen
  go_enter Tryd.func11, Tryd.ntmps11
  go_upto_region 1 with fail
  generalize hw1 : World.alloc (World.alloc (World.alloc _ _) _) _ = w1
  obtain ⟨r1, r2, r3, hb1, -⟩ := rows3 (C := List.replicate 32 (Value.int .u8 0)) hw1
  clear hw1
  refine wp_region_noPanic ?_
  refine wp_region_held_drew (S := fun w' => Row w' w.heap.size 23 (byts key) ∧ Row w' (w.heap.size + 1) 23 (byts en)) (by kernel_rfl) (⟨r1.later ((Below.refl _ _).drew) r1.lt, r2.later ((Below.refl _ _).drew) r2.lt⟩) (fun hHeld => ?_)
  have hB : Below w1.heap.size w1 w1.drew := (Below.refl _ _).drew
  refine rt 0 5 hHeld ?_ (hy := by intro w hS; exact run_load_op 23 (.tmp 2) rfl _ 0 rfl (byts key) _ (row_range hS.1) Tryd.underlying23 rfl hkz.out)
  refine rt 1 6 hHeld ?_
  refine rt 2 7 hHeld ?_ (hy := by intro w hS; have hcv := conv_bytes (sl_arr21 hS.2 he.out) 32 he.out.symm; go_simp; try with_reducible rfl)
  refine rc1 3 fun K hK => ?_
  refine step_strs (some 8) rfl (by rfl) _ [en] (by have hss := slice_strs1 en w1.drew; go_simp; rfl) rfl ?_; intro ww13 s3 hqw13
  refine rk hK ⟨hHeld.1.later hqw13 hHeld.1.lt, hHeld.2.later hqw13 hHeld.2.lt⟩ fun hHeld => ?_
  clear hK K
  have hB := below_step hB hqw13
  have hB3 : Below ww13.heap.size ww13 ww13 := Below.refl _ _
  refine rc1 4 fun K hK => ?_
  go_simp
  refine (dkey_any key hk bindU _ 1 1 [en] _ (hT.later (hb1.trans (hB.mono hb1.size)) (Nat.le_refl _)) s3 rfl (by show (4 + 1) + ((en.length + 1) + 0) ≤ _; rw [he.out]; decide)).mono ?_; rintro e ww14 ⟨rfl, hqw14⟩; rw [show keyD key bindU [en] = bindG key en from rfl, ← HV.out]
  try go_wp2_with fail
  refine hK.out _ _ ⟨hHeld.1.later hqw14 hHeld.1.lt, hHeld.2.later hqw14 hHeld.2.lt⟩ (fun hHeld => ?_)
  clear hK K
  have hB := below_step hB hqw14
  have hB3 := below_step hB3 hqw14
  have hB4 : Below ww14.heap.size ww14 ww14 := Below.refl _ _
  refine rc1 5 fun K hK => ?_
  refine step_store_row none rfl (by rfl) 23 (.tmp 4) (.tmp 9) rfl _ 0 23 _ V rfl rfl (r3.later hB r3.lt) hfit.out hszl.out hone.out ?_; intro wf rf hgf; have hBz := hB
  refine hK.out _ _ ⟨hHeld.1.grown hgf (by omega), hHeld.2.grown hgf (by omega)⟩ (fun hHeld => ?_)
  clear hK K
  rw [put_none]
  refine wpAnyH_done (by kernel_rfl) ?_ _
  refine NoPanic.normal ?_
  have r9 : Row wf (w.heap.size + 1 + 1) 23 V := by rw [HVr.out] at rf; exact rf
  have hb9 := (hb1.trans (hBz.mono hb1.size)).grown hgf (Nat.le_trans hb1.size hBz.size) (fun k h => by cases h; omega)
  have R9 := Lib.hid (show wf.heap[(w.heap.size + 1 + 1 : Nat)]? = some (.cells V.toArray 23 (0, 0)) from r9)
  clear r9 hgf rf hBz hHeld hb1
  go_wp2_with (with_reducible refine bodyPost_ret (results_cell_row rfl _ _ (w.heap.size + 1 + 1) 23 V.toArray (0, 0) (.array 32 5) rfl R9.out Tryd.underlying23 rfl hsz2.out) rfl ?_)
  exact ⟨by rw [HV.out], hb9⟩
end Go.Proofs.YtnkkgclmmaakgaaDoor

/- LAYER 21: package bind: Bind, Fits. -/
namespace Go.Proofs.YtnkkgclmmaakgaaDoor
set_option maxRecDepth 100000
open Go Go.RowKit

set_option maxHeartbeats 8000000 in
theorem bbind_T (root : List UInt8) (hk : root.length = 32) (t : Tok) (ht : t.Ok) (hm : t.cavs.length ≤ 1000000) (A : Option Addr) (c : Nat) (w : World) (hT : Tabs w) (hs : Sl w A (c * 5) (t.cavs.flatMap cavV)) :
    Calls Tryd.prog 8 #[.agg (byts root).toArray, .agg (tokV t A c).toArray] w (GaveTok (bindT root t) (errBind t) w) := by
  obtain ⟨Z, hZ⟩ : ∃ Z, Z = tokV zeroK none 0 := ⟨_, rfl⟩
  have hZl : Z.length = 36 := by rw [hZ]; exact length_tokV zeroK_ok none 0
  have hZe := Lib.hid (hZ.trans ztok)
  have hzZ := Lib.hid (show (Tryd.prog.info? 27).map (·.size) = some Z.toArray.size by rw [List.size_toArray, hZl]; exact size_tok)
  have hZ1 := Lib.hid (show Z.toArray.all (·.oneCell') = true by rw [hZ, List.all_toArray, List.all_eq_true]; exact tokV_one _ _ _)
  obtain ⟨X, hX⟩ : ∃ X, X = tokV t A c := ⟨_, rfl⟩
  have hXl : X.length = 36 := by rw [hX]; exact length_tokV ht A c
  have hzX := Lib.hid (show (Tryd.prog.info? 27).map (·.size) = some X.length by rw [hXl]; exact size_tok)
  have hzX2 := Lib.hid (show (Tryd.prog.info? 27).map (·.size) = some X.toArray.size by rw [List.size_toArray, hXl]; exact size_tok)
  have hkz := Lib.hid (show (Tryd.prog.info? 23).map (·.size) = some (byts root).toArray.size by rw [List.size_toArray, size_tag, tag_fit _ hk])
  have htz := Lib.hid (show (Tryd.prog.info? 23).map (·.size) = some (byts t.tag).length by rw [size_tag, tag_fit _ ht.tag])
  obtain ⟨w1, hw1⟩ : ∃ w1, w1 = ((w.alloc (.cells (byts root).toArray 23)).alloc (.cells X.toArray 27)).alloc (.cells Z.toArray 27) := ⟨_, rfl⟩
  obtain ⟨r1, r2, r3, hb1, -⟩ := rows3 hw1.symm
  have HW := Lib.hid (hw1.trans (by rw [hZe.out]))
  have ts := hs.later (Nat.le_refl _) hb1
  have hc3 : w1.cell? ⟨w.heap.size + 1, 3, none⟩ = some (.bool t.bound) := by rw [r2.cell, hX]; rfl
  have HZ := Lib.hid hZ
  have HX := Lib.hid hX
  have hE : errBind t = if t.bound = true then 6 else 0 := rfl
  have hG : bindT root t = if t.bound = true then zeroK else boundT root t := rfl
  have tok1 : True := trivial
  rw [← hX]
  clear hw1 hZ hX hs
  have Q3 := Lib.hid (show w1.heap[w.heap.size + 1 + 1]? = some (.cells Z.toArray 27 (0, 0)) from r3)
  cases hbd : t.bound with
  | true =>
    rw [hbd] at hc3 hE hG
    have e1 : errBind t = 6 := hE.trans (if_pos rfl)
    have e2 : bindT root t = zeroK := hG.trans (if_pos rfl)
    rw [e1, e2]
    clear r1 r2 r3 ts hXl hZl hE hG e1 e2
    go_enter Tryd.func8, Tryd.ntmps8
    go_wp2_with (first
      | (have _t := tok1; rw [← HW.out]; clear tok1)
      | (have _t := Q3; refine wpList_store_row rfl 27 (.tmp 4) (.tmp 9) rfl (w.heap.size + 1 + 1) Z.toArray rfl (by rw [hZe.out]; rfl) 27 Z.toArray Q3.out hzZ.out rfl hZ1.out ?_; refine Hid.out ?_))
    refine Lib.hid ?_
    generalize hw8 : World.setRow _ _ _ = w8
    obtain ⟨r8, hg8⟩ := row_set (show Row w1 (w.heap.size + 1 + 1) 27 Z from Q3.out) hw8
    have hb8 := hb1.grown hg8 hb1.size (fun k h => by cases h; omega)
    have R8 := Lib.hid (show w8.heap[w.heap.size + 1 + 1]? = some (.cells Z.toArray 27 (0, 0)) from r8)
    clear hw8 r8 Q3
    go_wp2_with fail
    exact ⟨rfl, _, results_row_tmp rfl _ _ (w.heap.size + 1 + 1) 27 Z.toArray (0, 0) _ rfl R8.out Tryd.underlying27 rfl hzZ.out _ rfl, none, 0, by rw [HZ.out]; rfl, sl_zeroK _, (fun a h => by cases h), hb8⟩
  | false =>
    rw [hbd] at hc3 hE hG
    have e1 : errBind t = 0 := hE.trans (if_neg (by decide))
    have e2 : bindT root t = boundT root t := hG.trans (if_neg (by decide))
    rw [e1, e2]
    have RL := Lib.hid r3.lt
    have hcl := Lib.hid (fun w' h => pclone_fresh t ht hm A c w' h)
    rw [← HX.out] at hcl
    have htg := Lib.hid (fun w' h => btag_T root hk t.tag ht.tag w' h)
    have HBD := Lib.hid hbd
    have R2 := Lib.hid (show w1.heap[w.heap.size + 1]? = some (.cells X.toArray 27 (0, 0)) from r2)
    have hdo := boundT_ok root ht
    have hto : ({ t with bound := true } : Tok).Ok := { ht with }
    have HOk := Lib.hid ht
    clear hE hG e1 e2 hbd ht hm hk hXl
    go_enter Tryd.func8, Tryd.ntmps8
    go_upto_region 4 with (first
      | (have _t := tok1; rw [← HW.out]; clear tok1)
      | (with_reducible refine wpList_load_row rfl 27 (.tmp 3) rfl (w.heap.size + 1) rfl 27 X.toArray (0, 0) _ R2.out Tryd.underlying27 rfl hzX2.out ?_)
      | (go_at_call 19; refine (hcl.out _ ts).mono ?_; rintro e w2 ⟨B, d, rfl, s2, hfr, hq⟩; have r1 := r1.later hq r1.lt; have r2 := r2.later hq r2.lt; have r3 := r3.later hq r3.lt; have hb2 := hb1.trans (hq.mono hb1.size); have H12 := Lib.hid hq.size; have hYl := length_tokV HOk.out B d; have hoY := tokV_one t B d; obtain ⟨Y, hY⟩ : ∃ V, V = tokV t B d := ⟨_, rfl⟩; rw [← hY] at hYl hoY ⊢; have HY := Lib.hid hY; have hzY := Lib.hid (show (Tryd.prog.info? 27).map (·.size) = some Y.toArray.size by rw [List.size_toArray, hYl]; exact size_tok); have h36 := Lib.hid (show 36 = Y.toArray.size by rw [List.size_toArray, hYl]); have hY1 := Lib.hid (all_one hoY); have hfr := Lib.hid hfr; clear hq hY hYl hoY)
      | (have _t := h36; refine wpList_store_row rfl 27 (.tmp 6) (.tmp 11) rfl w2.heap.size Y.toArray rfl rfl 27 _ (heap_alloc_new w2 _) hzY.out (Eq.trans (by kernel_rfl) h36.out) hY1.out ?_))
    generalize hw3 : World.setRow _ _ _ = w3
    obtain ⟨r6, hq⟩ := row_new_set (xs := Y) hw3
    have r1 := r1.later hq r1.lt
    have r2 := r2.later hq r2.lt
    have r3 := r3.later hq r3.lt
    have s3 := s2.later (Nat.le_refl _) hq
    have hb3 := hb2.trans (hq.mono hb2.size)
    have hG6 : w.heap.size + 1 + 1 < w2.heap.size := by have := RL.out; have := H12.out; omega
    have hfa := Lib.hid (fun a (ha : B = some a) => (show w1.heap.size ≤ a.block from hfr.out a ha))
    have hne := Lib.hid (fun (hx : 0 < (t.cavs.flatMap cavV).length) a (ha : B = some a) => (show a.block < w2.heap.size from s2.block_lt hx ha))
    rw [HY.out] at r6
    generalize w2.heap.size = g6 at *
    have hc3 : w3.cell? ⟨g6, 3, none⟩ = some (.bool false) := by rw [r6.cell]; exact congrArg (fun b => some (Value.bool b)) HBD.out
    have hff := r6.free 3
    clear hw3 hq hzY h36 hY1 s2
    go_upto_region 5 with fail
    generalize hw4 : World.setCell _ _ _ = w4
    have hg4 : w3.grownBy w4 (some g6) := by rw [← hw4]; exact grown_setCell _ _ _ _
    have r6 : Row w4 g6 27 (tokV { t with bound := true } B d) := by
      have h := r6.set 3 (.bool true)
      rw [hw4] at h; exact h
    have r1 := r1.grown hg4 (by omega)
    have r2 := r2.grown hg4 (by omega)
    have r3 := r3.grown hg4 (by omega)
    have s4 := s3.apart hg4 (fun hx a ha => by have := hne.out hx a ha; omega)
    have hb4 := hb3.grown hg4 hb3.size (fun k h => by cases h; omega)
    have R1 := Lib.hid (show w4.heap[w.heap.size]? = some (.cells (byts root).toArray 23 (0, 0)) from r1)
    have KT := Lib.hid (tok_tag_range (HX.out ▸ r2))
    obtain ⟨V, hV⟩ : ∃ V, V = tokV (boundT root t) B d := ⟨_, rfl⟩
    have hVl : V.length = 36 := by rw [hV]; exact length_tokV hdo B d
    have hzV := Lib.hid (show (Tryd.prog.info? 27).map (·.size) = some V.toArray.size by rw [List.size_toArray, hVl]; exact size_tok)
    have hV1 := Lib.hid (show V.toArray.all (·.oneCell') = true by rw [hV, List.all_toArray, List.all_eq_true]; exact tokV_one _ _ _)
    have hVZ := Lib.hid (show Z.toArray.size = V.toArray.size by rw [List.size_toArray, List.size_toArray, hVl, hZl])
    have hgz := Lib.hid (show (Tryd.prog.info? 23).map (·.size) = some (byts (bindG root t.tag)).length by rw [size_tag, tag_fit _ (length_bindG _ _)])
    have hoG := Lib.hid (byts_one (bindG root t.tag))
    have hput := Lib.hid (show splice (tokV { t with bound := true } B d) 4 (byts (bindG root t.tag)) = V by rw [hV]; exact tok_put_tag { t with bound := true } B d _ hto (length_bindG _ _))
    have hfit := Lib.hid (show 4 + (byts (bindG root t.tag)).length ≤ (tokV { t with bound := true } B d).length by rw [tag_fit _ (length_bindG root t.tag), length_tokV hto B d]; exact Nat.le_refl _)
    have HV := Lib.hid hV
    clear hto hV hVl hZl r1 r2 hdo hw4 hg4
    generalize tokV { t with bound := true } B d = Y2 at *
    generalize bindG root t.tag = G at *
    go_upto_region 6 with (first
      | (with_reducible refine wpList_load_row rfl 23 (.tmp 2) rfl w.heap.size rfl 23 (byts root).toArray (0, 0) _ R1.out Tryd.underlying23 rfl hkz.out ?_)
      | (with_reducible refine wpList_load_mid rfl 23 (.tmp 14) rfl (w.heap.size + 1) 4 rfl (byts t.tag) _ KT.out Tryd.underlying23 rfl htz.out ?_)
      | (go_at_call 11; refine (htg.out _ (hT.later hb4 (Nat.le_refl _))).mono ?_; rintro e w5 ⟨rfl, hq⟩; have r6 := r6.later hq r6.lt; have r3 := r3.later hq r3.lt; have s4 := s4.later (Nat.le_refl _) hq; have hb5 := hb4.trans (hq.mono hb4.size); clear hq)
      | (have _t := hb5; refine wpList_store_mid rfl 23 (.tmp 17) (.tmp 16) rfl g6 4 27 Y2 (byts G) rfl rfl r6 hfit.out hgz.out hoG.out ?_; intro w6 r6x hg6))
    have r7 : Row w6 g6 27 V := by rw [hput.out] at r6x; exact r6x
    have r3 := r3.grown hg6 (by omega)
    have s6 := s4.apart hg6 (fun hx a ha => by have := hne.out hx a ha; omega)
    have hb6 := hb5.grown hg6 hb5.size (fun k h => by cases h; omega)
    have R7 := Lib.hid (show w6.heap[g6]? = some (.cells V.toArray 27 (0, 0)) from r7)
    have Q3 := Lib.hid (show w6.heap[w.heap.size + 1 + 1]? = some (.cells Z.toArray 27 (0, 0)) from r3)
    clear r6x hg6 hput hfit hgz hoG R1 KT htg hkz htz r7
    go_wp2_with (first
      | (with_reducible refine wpList_load_row rfl 27 (.tmp 6) rfl g6 rfl 27 V.toArray (0, 0) _ R7.out Tryd.underlying27 rfl hzV.out ?_)
      | (have _t := Q3; refine wpList_store_row rfl 27 (.tmp 4) (.tmp 18) rfl (w.heap.size + 1 + 1) V.toArray rfl rfl 27 Z.toArray Q3.out hzV.out hVZ.out hV1.out ?_; refine Hid.out ?_))
    refine Lib.hid ?_
    generalize hw8 : World.setRow _ _ _ = w8
    obtain ⟨r8, hg8⟩ := row_set (show Row w6 (w.heap.size + 1 + 1) 27 Z from Q3.out) hw8
    have hb8 := hb6.grown hg8 hb6.size (fun k h => by cases h; omega)
    have R8 := Lib.hid (show w8.heap[w.heap.size + 1 + 1]? = some (.cells V.toArray 27 (0, 0)) from r8)
    clear hw8 r8 Q3
    go_wp2_with fail
    exact ⟨rfl, _, results_row_tmp rfl _ _ (w.heap.size + 1 + 1) 27 V.toArray (0, 0) _ rfl R8.out Tryd.underlying27 rfl hzV.out _ rfl, B, d, by rw [HV.out]; rfl, s6.apart hg8 (fun _ a ha => by have := hfa.out a ha; have := RL.out; omega), (fun a ha => by have := hfa.out a ha; have := RL.out; omega), hb8⟩
theorem sl_part21 {w : World} {g o : Nat} {l : List UInt8} (h : w.rangeAt g o (byts l)) (hg : g < w.heap.size) (hl : l.length = 32) : Sl w (some ⟨g, o, none⟩) 32 (byts l) :=
  ⟨.inr ⟨g, o, rfl, hg, fun i hi => by rw [List.getElem?_eq_getElem hi]; exact h i _ (List.getElem?_eq_getElem hi)⟩, by rw [length_byts, hl]; exact Nat.le_refl _, fun h => by cases h⟩
set_option maxHeartbeats 8000000 in
theorem bfits_T (root : List UInt8) (hk : root.length = 32) (en : List UInt8) (hen : en.length = 32) (t : Tok) (ht : t.Ok) (A : Option Addr) (c : Nat) (w : World) (hT : Tabs w) :
    Calls Tryd.prog 13 #[.agg (byts root).toArray, .agg (byts en).toArray, .agg (tokV t A c).toArray] w fun e w' => e = .returned (.bool (fitsT root en t)) ∧ Below w.heap.size w w' := by
  obtain ⟨X, hX⟩ : ∃ X, X = tokV t A c := ⟨_, rfl⟩
  have HX := Lib.hid hX
  have hkz := Lib.hid (show (Tryd.prog.info? 23).map (·.size) = some (byts root).toArray.size by rw [List.size_toArray, size_tag, tag_fit _ hk])
  have hnz := Lib.hid (show (Tryd.prog.info? 23).map (·.size) = some (byts en).toArray.size by rw [List.size_toArray, size_tag, tag_fit _ hen])
  have htl := Lib.hid ht.tag
  have hel := Lib.hid hen
  have hc3 := Lib.hid (fun (w' : World) (h : Row w' (w.heap.size + 1 + 1) 27 X) => (show w'.cell? ⟨w.heap.size + 1 + 1, 3, none⟩ = some (.bool t.bound) by rw [h.cell, hX]; rfl))
  have hF : fitsT root en t = if t.bound = true then decide (t.tag = bindG root en) else decide (t.tag = en) := rfl
  rw [← hX]
  have htg := Lib.hid (fun w' h => btag_T root hk en hen w' h)
  have hgl := Lib.hid (length_bindG root en)
  clear hX hk ht
  cases hbd : t.bound with
  | true =>
    rw [hbd] at hc3 hF
    replace hF := hF.trans (if_pos rfl)
    clear hbd
    generalize fitsT root en t = fv at *
    generalize bindG root en = E at *
    have hgz := Lib.hid (show (Tryd.prog.info? 23).map (·.size) = some (byts E).toArray.size by rw [List.size_toArray, size_tag, tag_fit _ hgl.out])
    have hEn := Lib.hid (show (byts en).toArray.size = (byts E).toArray.size by rw [List.size_toArray, List.size_toArray, tag_fit _ hen, tag_fit _ hgl.out])
    have hE1 := Lib.hid (all_one (byts_one E))
    clear hen
    go_enter Tryd.func13, Tryd.ntmps13
    obtain ⟨w1, hw1⟩ : ∃ w1, w1 = ((w.alloc (.cells (byts root).toArray 23)).alloc (.cells (byts en).toArray 23)).alloc (.cells X.toArray 27) := ⟨_, rfl⟩
    obtain ⟨r1, r2, r3, hb1, -⟩ := rows3 hw1.symm
    have HW := Lib.hid hw1
    have hc4 := hc3.out w1 r3
    clear hw1
    have tok1 : True := trivial
    have R1 := Lib.hid (show w1.heap[w.heap.size]? = some (.cells (byts root).toArray 23 (0, 0)) from r1)
    have R2 := Lib.hid (show w1.heap[w.heap.size + 1]? = some (.cells (byts en).toArray 23 (0, 0)) from r2)
    go_upto_region 3 with (first
      | (have _t := tok1; rw [← HW.out]; clear tok1)
      | (with_reducible refine wpList_load_row rfl 23 (.tmp 3) rfl w.heap.size rfl 23 (byts root).toArray (0, 0) _ R1.out Tryd.underlying23 rfl hkz.out ?_)
      | (with_reducible refine wpList_load_row rfl 23 (.tmp 4) rfl (w.heap.size + 1) rfl 23 (byts en).toArray (0, 0) _ R2.out Tryd.underlying23 rfl hnz.out ?_)
      | (go_at_call 11; refine (htg.out _ (hT.later hb1 (Nat.le_refl _))).mono ?_; rintro e w2 ⟨rfl, hq⟩; have r2 := r2.later hq r2.lt; have r3 := r3.later hq r3.lt; have hb2 := hb1.trans (hq.mono hb1.size); have Q2 := Lib.hid (show w2.heap[w.heap.size + 1]? = some (.cells (byts en).toArray 23 (0, 0)) from r2); clear hq)
      | (have _t := Q2; with_reducible refine wpList_store_row rfl 23 (.tmp 4) (.tmp 11) rfl (w.heap.size + 1) (byts E).toArray rfl rfl 23 (byts en).toArray Q2.out hgz.out hEn.out hE1.out ?_))
    generalize hw3 : World.setRow _ _ _ = w3
    obtain ⟨r4, hg3⟩ := row_set (show Row w2 (w.heap.size + 1) 23 (byts en) from Q2.out) hw3
    have r3 := r3.grown hg3 (by omega)
    have r2 := r4
    have hbx := hb2.grown hg3 hb2.size (fun k h => by cases h; omega)
    clear hw3 hg3 r4 Q2 R1 R2 hc4 HW r1 hb1 hb2 hkz hnz hgz hEn hE1 htg
    refine wp_region_noPanic ?_
    refine wp_region_held_drew (S := fun w' => Row w' (w.heap.size + 1) 23 (byts E) ∧ Row w' (w.heap.size + 1 + 1) 27 X) (by kernel_rfl) (⟨r2.later ((Below.refl _ _).drew) r2.lt, r3.later ((Below.refl _ _).drew) r3.lt⟩) (fun hHeld => ?_)
    have hB : Below w3.heap.size w3 w3.drew := (Below.refl _ _).drew
    refine rt 0 12 hHeld ?_
    refine rt 1 13 hHeld ?_
    refine rt 2 14 hHeld ?_
    refine rc1 3 fun K hK => ?_
    go_simp
    refine (equal_any _ 32 32 t.tag _ 32 32 E _ (sl_part21 (tok_tag_range (A := A) (c := c) (HX.out ▸ hHeld.2)) hHeld.2.lt htl.out) htl.out.symm (sl_arr21 hHeld.1 hgl.out) hgl.out.symm (by rw [htl.out]; decide) (by rw [hgl.out]; decide)).mono ?_; rintro e w9 ⟨rfl, rfl⟩
    try go_wp2_with fail
    refine hK.out _ _ hHeld (fun hHeld => ?_)
    clear hK K
    refine rt 4 6 hHeld ?_
    refine wpAnyH_done (by kernel_rfl) ?_ _
    refine NoPanic.normal ?_
    have hb9 := hbx.trans (hB.mono hbx.size)
    clear hB hHeld
    go_wp2_with fail
    go_ret
    exact ⟨by rw [hF]; rfl, hb9⟩
  | false =>
    rw [hbd] at hc3 hF
    replace hF := hF.trans (if_neg (by decide))
    clear hbd htg hgl hen hkz hnz
    generalize fitsT root en t = fv at *
    go_enter Tryd.func13, Tryd.ntmps13
    obtain ⟨w1, hw1⟩ : ∃ w1, w1 = ((w.alloc (.cells (byts root).toArray 23)).alloc (.cells (byts en).toArray 23)).alloc (.cells X.toArray 27) := ⟨_, rfl⟩
    obtain ⟨r1, r2, r3, hb1, -⟩ := rows3 hw1.symm
    have HW := Lib.hid hw1
    have hc4 := hc3.out w1 r3
    clear hw1
    have tok1 : True := trivial
    go_upto_region 3 with (have _t := tok1; rw [← HW.out]; clear tok1)
    have hbx := hb1
    clear hc4 HW r1 hb1
    refine wp_region_noPanic ?_
    refine wp_region_held_drew (S := fun w' => Row w' (w.heap.size + 1) 23 (byts en) ∧ Row w' (w.heap.size + 1 + 1) 27 X) (by kernel_rfl) (⟨r2.later ((Below.refl _ _).drew) r2.lt, r3.later ((Below.refl _ _).drew) r3.lt⟩) (fun hHeld => ?_)
    have hB : Below w1.heap.size w1 w1.drew := (Below.refl _ _).drew
    refine rt 0 12 hHeld ?_
    refine rt 1 13 hHeld ?_
    refine rt 2 14 hHeld ?_
    refine rc1 3 fun K hK => ?_
    go_simp
    refine (equal_any _ 32 32 t.tag _ 32 32 en _ (sl_part21 (tok_tag_range (A := A) (c := c) (HX.out ▸ hHeld.2)) hHeld.2.lt htl.out) htl.out.symm (sl_arr21 hHeld.1 hel.out) hel.out.symm (by rw [htl.out]; decide) (by rw [hel.out]; decide)).mono ?_; rintro e w9 ⟨rfl, rfl⟩
    try go_wp2_with fail
    refine hK.out _ _ hHeld (fun hHeld => ?_)
    clear hK K
    refine rt 4 6 hHeld ?_
    refine wpAnyH_done (by kernel_rfl) ?_ _
    refine NoPanic.normal ?_
    have hb9 := hbx.trans (hB.mono hbx.size)
    clear hB hHeld
    go_wp2_with fail
    go_ret
    exact ⟨by rw [hF]; rfl, hb9⟩
end Go.Proofs.YtnkkgclmmaakgaaDoor

/- LAYER 21: package bind: All. -/
namespace Go.Proofs.YtnkkgclmmaakgaaDoor
set_option maxRecDepth 100000
open Go Go.RowKit

set_option maxHeartbeats 8000000 in
theorem ball21_v {lo : Nat} {b : Bun} {w : World} {v : Value} (hb : b.Ok) (hf : b.Fit) (hm : ∀ e ∈ b.root :: b.dis, e.cavs.length ≤ 1000000) (hn : b.dis.length ≤ 1000000) (hT : Tabs w) (h : BunV lo b w v) :
    Calls Tryd.prog 16 #[v] w fun e w' => ∃ u, e = .returned (.tuple #[u, .int .i64 (errAll b)]) ∧ BunV w.heap.size (allB b) w' u ∧ Below w.heap.size w w' := by
  have hck := Lib.hid (fun w' (hq : Below w.heap.size w w') => bcheck_v hb hf (h.later hq))
  have hcl := Lib.hid (fun w' (hq : Below w.heap.size w w') => bclone_o hb hm hn (h.later hq))
  obtain ⟨A, c, B, d, ds0, rfl, -, -, -⟩ := h.parts
  have hr := hb.root
  have hC : chkB b = if checkB b = true then 0 else 1 := rfl
  have hE : errAll b = if checkB b = true then 0 else 1 := rfl
  have hG : allB b = if checkB b = true then ⟨b.root, b.dis.map (eachD b.root.tag)⟩ else zeroB := rfl
  obtain ⟨Z, hZ⟩ : ∃ Z, Z = bunV zeroK none 0 none 0 0 := ⟨_, rfl⟩
  have hZl : Z.length = 37 := by rw [hZ]; exact length_bunV zeroK_ok none 0 none 0 0
  have hZe := Lib.hid (hZ.trans zbun)
  have hzZ := Lib.hid (show (Tryd.prog.info? 40).map (·.size) = some Z.toArray.size by rw [size_bun, List.size_toArray, hZl])
  have hZ1 := Lib.hid (show Z.toArray.all (·.oneCell') = true by rw [hZ, List.all_toArray, List.all_eq_true]; exact bunV_one _ _ _ _ _ _)
  obtain ⟨V, hV⟩ : ∃ V, V = bunV b.root A c B ds0.length d := ⟨_, rfl⟩
  have hVl : V.length = 37 := by rw [hV]; exact length_bunV hr A c B ds0.length d
  have hzV := Lib.hid (show (Tryd.prog.info? 40).map (·.size) = some V.toArray.size by rw [size_bun, List.size_toArray, hVl])
  obtain ⟨w1, hw1⟩ : ∃ w1, w1 = (w.alloc (.cells V.toArray 40)).alloc (.cells Z.toArray 40) := ⟨_, rfl⟩
  obtain ⟨r1, r2, hb1⟩ := two_rows19 hw1.symm
  have HW := Lib.hid (hw1.trans (by rw [hZe.out]))
  rw [← hV] at hck hcl ⊢
  have HV := Lib.hid hV
  have HZ := Lib.hid hZ
  have hLw := Lib.hid (show w.heap.size + 1 < w1.heap.size from r2.lt)
  have R1 := Lib.hid (show w1.heap[w.heap.size]? = some (.cells V.toArray 40 (0, 0)) from r1)
  have tok1 : True := trivial
  have hdk := hb.dis
  have hmd : ∀ e ∈ b.dis, e.cavs.length ≤ 1000000 := fun e he => hm e (List.mem_cons_of_mem _ he)
  clear hw1 hZ hV hm h hb hf
  generalize hcb : checkB b = ok at *
  cases ok with
  | false =>
    have e1 : errAll b = 1 := hE.trans (if_neg (by decide))
    have e2 : allB b = zeroB := hG.trans (if_neg (by decide))
    have e3 : chkB b = 1 := hC.trans (if_neg (by decide))
    rw [e1, e2]
    rw [e3] at hck
    clear hE hG hC e1 e2 e3 hVl hZl hn hcl hdk hmd
    go_enter Tryd.func16, Tryd.ntmps16
    go_wp2_with (first
      | (have _t := tok1; rw [← HW.out]; clear tok1)
      | (with_reducible refine wpList_load_row rfl 40 (.tmp 1) rfl w.heap.size rfl 40 V.toArray (0, 0) _ R1.out Tryd.underlying40 rfl hzV.out ?_)
      | (go_at_call 23; refine (hck.out _ hb1).mono ?_; rintro e w2 ⟨rfl, hq⟩; have r2 := r2.later hq r2.lt; have hb2 := hb1.trans (hq.mono hb1.size); have Q2 := Lib.hid (show w2.heap[w.heap.size + 1]? = some (.cells Z.toArray 40 (0, 0)) from r2); clear hq)
      | (have _t := Q2; refine wpList_store_row rfl 40 (.tmp 2) (.tmp 14) rfl (w.heap.size + 1) Z.toArray rfl (by rw [hZe.out]; rfl) 40 Z.toArray Q2.out hzZ.out rfl hZ1.out ?_; refine Hid.out ?_))
    refine Lib.hid ?_
    generalize hw8 : World.setRow _ _ _ = w8
    obtain ⟨r8, hg8⟩ := row_set (show Row w2 (w.heap.size + 1) 40 Z from Q2.out) hw8
    have hb8 := hb2.grown hg8 hb2.size (fun k h => by cases h; omega)
    have R8 := Lib.hid (show w8.heap[w.heap.size + 1]? = some (.cells Z.toArray 40 (0, 0)) from r8)
    clear hw8 r8 Q2
    go_wp2_with fail
    exact ⟨rfl, _, results_row_tmp rfl _ _ (w.heap.size + 1) 40 Z.toArray (0, 0) _ rfl R8.out Tryd.underlying40 rfl hzZ.out _ rfl, .agg Z.toArray, rfl, by rw [HZ.out]; exact BunV.zero _ w8, hb8⟩
  | true =>
    have e1 : errAll b = 0 := hE.trans (if_pos rfl)
    have e2 : allB b = ⟨b.root, b.dis.map (eachD b.root.tag)⟩ := hG.trans (if_pos rfl)
    have e3 : chkB b = 0 := hC.trans (if_pos rfl)
    rw [e1, e2]
    rw [e3] at hck
    clear hE hG hC e1 e2 e3 hVl
    go_enter Tryd.func16, Tryd.ntmps16
    go_upto_region 5 with (first
      | (have _t := tok1; rw [← HW.out]; clear tok1)
      | (with_reducible refine wpList_load_row rfl 40 (.tmp 1) rfl w.heap.size rfl 40 V.toArray (0, 0) _ R1.out Tryd.underlying40 rfl hzV.out ?_)
      | (with_reducible refine wpList_load_row rfl 40 (.tmp 1) rfl w.heap.size rfl 40 V.toArray (0, 0) _ R12.out Tryd.underlying40 rfl hzV.out ?_)
      | (go_at_call 23; refine (hck.out _ hb1).mono ?_; rintro e w2 ⟨rfl, hq⟩; have r1 := r1.later hq r1.lt; have r2 := r2.later hq r2.lt; have hb2 := hb1.trans (hq.mono hb1.size); have R12 := Lib.hid (show w2.heap[w.heap.size]? = some (.cells V.toArray 40 (0, 0)) from r1); have HL2 := Lib.hid (show w.heap.size + 1 < w2.heap.size from r2.lt); clear hq)
      | (go_at_call 24; refine (hcl.out _ hb2).mono ?_; rintro e w3 ⟨v3, rfl, hv3, hq3⟩; obtain ⟨A3, c3, B3, d3, ds3, rfl, hds3, own3, hcv3⟩ := hv3; have r1 := r1.later hq3 r1.lt; have r2 := r2.later hq3 r2.lt; have hb3 := hb2.trans (hq3.mono hb2.size); obtain ⟨V3, hV3⟩ : ∃ V, V = bunV b.root A3 c3 B3 ds3.length d3 := ⟨_, rfl⟩; have hl3 : V3.length = 37 := (by rw [hV3]; exact length_bunV hr A3 c3 B3 ds3.length d3); rw [← hV3]; have HV3 := Lib.hid hV3; have hz3 := Lib.hid (show (Tryd.prog.info? 40).map (·.size) = some V3.toArray.size by rw [size_bun, List.size_toArray, hl3]); have h37 := Lib.hid (show 37 = V3.toArray.size by rw [List.size_toArray, hl3]); have hZ3 := Lib.hid (show Z.toArray.size = V3.toArray.size by rw [List.size_toArray, List.size_toArray, hl3, hZl]); have ho3 := Lib.hid (show V3.toArray.all (·.oneCell') = true by rw [hV3, List.all_toArray, List.all_eq_true]; exact bunV_one _ _ _ _ _ _); clear hV3 hl3)
      | (have _t := ho3; with_reducible refine wpList_store_row rfl 40 (.tmp 5) (.tmp 17) rfl w3.heap.size V3.toArray rfl rfl 40 _ (heap_alloc_new w3 _) hz3.out (Eq.trans (by kernel_rfl) h37.out) ho3.out ?_))
    generalize hw4 : World.setRow _ _ _ = w4
    obtain ⟨r5, hb34⟩ := row_new_set (xs := V3) hw4
    have h23 := hq3.size
    have h34 := hb34.size
    have h5 := r5.lt
    have r1 := r1.later hb34 r1.lt
    have r2 := r2.later hb34 r2.lt
    have hb4 := hb3.trans (hb34.mono hb3.size)
    have hl4 : TokL w4 w2.heap.size (w.heap.size + 1) w2.heap.size (.slice B3 ds3.length d3) (allK b.root.tag b.dis 0) := ⟨B3, d3, ds3, rfl, by rw [hds3, allK_zero], ownk_later own3 hb34 (Nat.le_refl _), fun e he => ⟨(hcv3 e (List.mem_cons_of_mem _ he)).1.later (Nat.le_refl _) hb34, fun hp a ha => ⟨((hcv3 e (List.mem_cons_of_mem _ he)).2 hp a ha).1, by have := ((hcv3 e (List.mem_cons_of_mem _ he)).2 hp a ha).1; have := HL2.out; omega, ((hcv3 e (List.mem_cons_of_mem _ he)).2 hp a ha).2⟩⟩⟩
    have hbk := Lib.hid (show ∀ k, Value.ownBlock (.slice B3 ds3.length d3) = some k → w2.heap.size ≤ k ∧ k < w3.heap.size from fun k hk => own3.lt k hk)
    have hrc : Cvs w4 (b.root, A3, c3) := (hcv3 _ List.mem_cons_self).1.later (Nat.le_refl _) hb34
    have HRC := Lib.hid ((hcv3 _ List.mem_cons_self).2)
    have hnl : b.dis.length = ds3.length := by rw [← hds3]; exact toks_len ds3
    have hcg : w4.cell? ⟨w3.heap.size, 36, none⟩ = some (.slice B3 ds3.length d3) := row_bun_dis hr (HV3.out ▸ r5)
    clear hck hcl R1 R12 hw4 hb1 hcv3 own3 hds3 hq3
    go_upto_region 6 with fail
    clear hcg
    go_loopw [21] (fun i wr => ∃ k : Nat, k ≤ ds3.length ∧ i = .int .i64 k ∧ TokL wr w2.heap.size (w.heap.size + 1) w2.heap.size (.slice B3 ds3.length d3) (allK b.root.tag b.dis k) ∧ Cvs wr (b.root, A3, c3) ∧ w4.grownBy wr (Value.ownBlock (.slice B3 ds3.length d3))) (fun i _ => ds3.length - (intOf i).toNat)
    case atStart => exact ⟨0, Nat.zero_le _, rfl, hl4, hrc, grown_refl _ _⟩
    case round =>
      clear hl4 hrc
      obtain ⟨k, hk, rfl, hl, hrc, hgr⟩ := hrel
      have hL2 := HL2.out
      have hbw : Below w.heap.size w wr := hb4.grown hgr hb4.size (fun k hk => by have := (hbk.out k hk).1; omega)
      have r1 := r1.grownO hgr (fun k hk => by have := (hbk.out k hk).1; omega)
      have r2 := r2.grownO hgr (fun k hk => by have := (hbk.out k hk).1; omega)
      have r5 := r5.grownO hgr (fun k hk => by have := (hbk.out k hk).2; omega)
      have h4r := hgr.size
      by_cases hlt : k < ds3.length
      · obtain ⟨b3, dd, rfl, hb3a, hb3b, hget, hrg, hsd, hap⟩ := hl.at (allK_ok hdk k) k hlt
        rw [allK_get] at hget
        have hix := index_tok (some ⟨b3, 0, none⟩) b3 0 ds3.length d3 k rfl hlt
        simp only [Nat.zero_add] at hix
        have hme : dd.1 ∈ b.dis := List.mem_of_getElem? hget
        have hud := hdk _ hme
        have hbi := Lib.hid (fun w' hT h => bbind_T b.root.tag hr.tag dd.1 hud (hmd _ hme) dd.2.1 dd.2.2 w' hT h)
        unfold GaveTok at hbi
        have hnx := Lib.hid (allK_next b.root.tag b.dis k dd.1 hget)
        have hsm := Lib.hid (allK_same b.root.tag b.dis k dd.1 hget)
        have hOK := Lib.hid (allK_ok (root := b.root.tag) hdk k)
        have hb3c := (hbk.out b3 rfl).2
        have hgr : w4.grownBy wr (some b3) := hgr
        have hlV := length_disV hud
        have hofn : ∀ v ∈ disV dd, v.oneCell' = true := fun v hv => disV_one [dd] v (by simpa using hv)
        have hUd := Lib.hid hud
        have htz := Lib.hid (show (Tryd.prog.info? 23).map (·.size) = some (byts b.root.tag).length by rw [size_tag, tag_fit _ hr.tag])
        generalize allK b.root.tag b.dis k = ms at *
        obtain ⟨V2, hV2q⟩ : ∃ V, V = disV dd := ⟨_, rfl⟩
        rw [← hV2q] at hlV hrg hofn
        rw [show tokV dd.1 dd.2.1 dd.2.2 = V2 from hV2q.symm] at hbi
        have hzf := Lib.hid (show (Tryd.prog.info? 27).map (·.size) = some V2.length by rw [size_tok, hlV])
        have hzf2 := Lib.hid (show (Tryd.prog.info? 27).map (·.size) = some V2.toArray.size by rw [size_tok, List.size_toArray, hlV])
        have hof := Lib.hid (all_one hofn)
        have hV2 := Lib.hid (show (36 : Nat) = V2.toArray.size by rw [List.size_toArray, hlV])
        clear hV2q hlV hofn hme hud hget hdk hmd hZl hap
        go_upto_region 8 with (first
          | (with_reducible refine wpList_load_mid rfl 27 (.tmp 24) rfl b3 (k * 36) rfl V2 _ hrg Tryd.underlying27 rfl hzf.out ?_)
          | (with_reducible refine wpList_store_row rfl 27 (.tmp 7) (.tmp 25) rfl wr.heap.size V2.toArray rfl rfl 27 _ (heap_alloc_new wr _) hzf2.out (Eq.trans (by kernel_rfl) hV2.out) hof.out ?_))
        generalize hw7 : World.setRow _ _ _ = w7
        obtain ⟨r7, hb7⟩ := row_new_set (xs := V2) hw7
        have hsd := hsd.later (Nat.le_refl _) hb7
        have r1 := r1.later hb7 r1.lt
        have KT := Lib.hid (bun_tag_range (HV.out ▸ r1))
        have R7 := Lib.hid (show w7.heap[wr.heap.size]? = some (.cells V2.toArray 27 (0, 0)) from r7)
        have hT7 := hT.later (hbw.trans (hb7.mono hbw.size)) (Nat.le_refl _)
        have h7 := hb7.size
        clear hw7 hrg r1 r7
        cases hbd : dd.1.bound with
        | true =>
          have hEe := hsm.out (by unfold eachD; rw [if_pos hbd])
          rw [show errBind dd.1 = 6 by unfold errBind; rw [if_pos hbd], show bindT b.root.tag dd.1 = zeroK by unfold bindT; rw [if_pos hbd]] at hbi
          have hUB := Lib.hid zeroK_ok
          obtain ⟨UB, hUBe⟩ : ∃ U, U = zeroK := ⟨_, rfl⟩
          rw [← hUBe] at hbi hUB
          clear hUBe hbd hnx hsm
          go_upto_region 9 with (first
            | (with_reducible refine wpList_load_mid rfl 23 (.tmp 28) rfl w.heap.size 4 rfl (byts b.root.tag) _ KT.out Tryd.underlying23 rfl htz.out ?_)
            | (with_reducible refine wpList_load_row rfl 27 (.tmp 7) rfl wr.heap.size rfl 27 V2.toArray (0, 0) _ R7.out Tryd.underlying27 rfl hzf2.out ?_)
            | (go_at_call 8; refine (hbi.out w7 hT7 hsd).mono ?_; rintro e w8 ⟨A8, c8, rfl, s8, hf8, hq8⟩; have hlV8 := length_tokV hUB.out A8 c8; have hon8 := tokV_one UB A8 c8; obtain ⟨V8, hV8q⟩ : ∃ V, V = tokV UB A8 c8 := ⟨_, rfl⟩; rw [← hV8q] at hlV8 hon8 ⊢; have HV8 := Lib.hid hV8q; have HlV8 := Lib.hid hlV8; have hzf8 := Lib.hid (show (Tryd.prog.info? 27).map (·.size) = some V8.toArray.size by rw [size_tok, List.size_toArray, hlV8]); have hV8 := Lib.hid (show (36 : Nat) = V8.toArray.size by rw [List.size_toArray, hlV8]); have hof8 := Lib.hid (all_one hon8); have hon8 := Lib.hid hon8; have hf8 := Lib.hid hf8; clear hV8q hlV8)
            | (with_reducible refine wpList_store_row rfl 27 (.tmp 8) (.tmp 32) rfl w8.heap.size V8.toArray rfl rfl 27 _ (heap_alloc_new w8 _) hzf8.out (Eq.trans (by kernel_rfl) hV8.out) hof8.out ?_))
          generalize hw9 : World.setRow _ _ _ = w9
          obtain ⟨r9, hb9⟩ := row_new_set (xs := V8) hw9
          have hq79 := hq8.trans (hb9.mono hq8.size)
          have hq9 := hb7.trans (hq79.mono hb7.size)
          have s9 : Cvs w9 (UB, A8, c8) := s8.later (Nat.le_refl _) hb9
          have h89 := hb9.size
          have h78 := hq8.size
          clear hw9 R7 KT hbi s8 hb9
          have hl9 := hl.later hq9
          rw [← hEe] at hl9
          have hrc9 : Cvs w9 (b.root, A3, c3) := hrc.later (Nat.le_refl _) hq9
          have hgr9 := grown_trans hgr (grown_of_below hq9 _)
          clear hl hrc hgr hEe s9 hf8 r9 hq9 hq79 hq8 hb7 hsd hix hOK
          go_wp2_with fail
          go_roundw
          case rel => exact ⟨k + 1, by omega, by go_num, hl9, hrc9, hgr9⟩
          case measure => simp [intOf]; omega
        | false =>
          have hEe : eachD b.root.tag dd.1 = boundT b.root.tag dd.1 := by unfold eachD; rw [if_neg (by rw [hbd]; decide)]
          rw [show errBind dd.1 = 0 by unfold errBind; rw [if_neg (by rw [hbd]; decide)], show bindT b.root.tag dd.1 = boundT b.root.tag dd.1 by unfold bindT; rw [if_neg (by rw [hbd]; decide)]] at hbi
          have hUB := Lib.hid (boundT_ok b.root.tag hUd.out)
          obtain ⟨UB, hUBe⟩ : ∃ U, U = boundT b.root.tag dd.1 := ⟨_, rfl⟩
          have hnx2 := hnx.out
          rw [hEe] at hnx2
          rw [← hUBe] at hbi hUB hnx2
          have hnx2 := Lib.hid hnx2
          clear hUBe hbd hEe hnx hsm
          go_upto_region 9 with (first
            | (with_reducible refine wpList_load_mid rfl 23 (.tmp 28) rfl w.heap.size 4 rfl (byts b.root.tag) _ KT.out Tryd.underlying23 rfl htz.out ?_)
            | (with_reducible refine wpList_load_row rfl 27 (.tmp 7) rfl wr.heap.size rfl 27 V2.toArray (0, 0) _ R7.out Tryd.underlying27 rfl hzf2.out ?_)
            | (go_at_call 8; refine (hbi.out w7 hT7 hsd).mono ?_; rintro e w8 ⟨A8, c8, rfl, s8, hf8, hq8⟩; have hlV8 := length_tokV hUB.out A8 c8; have hon8 := tokV_one UB A8 c8; obtain ⟨V8, hV8q⟩ : ∃ V, V = tokV UB A8 c8 := ⟨_, rfl⟩; rw [← hV8q] at hlV8 hon8 ⊢; have HV8 := Lib.hid hV8q; have HlV8 := Lib.hid hlV8; have hzf8 := Lib.hid (show (Tryd.prog.info? 27).map (·.size) = some V8.toArray.size by rw [size_tok, List.size_toArray, hlV8]); have hV8 := Lib.hid (show (36 : Nat) = V8.toArray.size by rw [List.size_toArray, hlV8]); have hof8 := Lib.hid (all_one hon8); have hon8 := Lib.hid hon8; have hf8 := Lib.hid hf8; clear hV8q hlV8)
            | (with_reducible refine wpList_store_row rfl 27 (.tmp 8) (.tmp 32) rfl w8.heap.size V8.toArray rfl rfl 27 _ (heap_alloc_new w8 _) hzf8.out (Eq.trans (by kernel_rfl) hV8.out) hof8.out ?_))
          generalize hw9 : World.setRow _ _ _ = w9
          obtain ⟨r9, hb9⟩ := row_new_set (xs := V8) hw9
          have hq79 := hq8.trans (hb9.mono hq8.size)
          have hq9 := hb7.trans (hq79.mono hb7.size)
          have s9 : Cvs w9 (UB, A8, c8) := s8.later (Nat.le_refl _) hb9
          have h89 := hb9.size
          have h78 := hq8.size
          clear hw9 R7 KT hbi s8 hb9
          have hl9 := hl.later hq9
          have hrc9 : Cvs w9 (b.root, A3, c3) := hrc.later (Nat.le_refl _) hq9
          have hgr9 := grown_trans hgr (grown_of_below hq9 _)
          have r5 := r5.later hq9 r5.lt
          have hcg : w9.cell? ⟨w3.heap.size, 36, none⟩ = some (.slice (some ⟨b3, 0, none⟩) ds3.length d3) := row_bun_dis hr (HV3.out ▸ r5)
          have hap9 : Apart w2.heap.size (w.heap.size + 1) (some ⟨b3, 0, none⟩) (UB, A8, c8) := fun _ a ha => ⟨by have := hf8.out a ha; omega, by have := hf8.out a ha; omega, fun p hp => by have := hf8.out a ha; cases hp; show b3 ≠ a.block; omega⟩
          obtain ⟨cur, rb, hfit, hput⟩ := tokL_put hl9 hOK.out k hlt hUB.out ⟨s9, hap9⟩
          rw [show disV (UB, A8, c8) = V8 from HV8.out.symm] at hfit hput
          have R9 := Lib.hid (show w9.heap[w8.heap.size]? = some (.cells V8.toArray 27 (0, 0)) from r9)
          have hzl8 := Lib.hid (show (Tryd.prog.info? 27).map (·.size) = some V8.length by rw [size_tok, HlV8.out])
          have hput := Lib.hid hput
          clear hl hrc hgr s9 hf8 r9 hq9 hq79 hq8 hb7 hsd hOK hl9 hap9
          go_wp2_with (first
            | (with_reducible refine wpList_load_row rfl 27 (.tmp 8) rfl w8.heap.size rfl 27 V8.toArray (0, 0) _ R9.out Tryd.underlying27 rfl hzf8.out ?_)
            | (refine wpList_store_mid rfl 27 (.tmp 40) (.tmp 39) rfl b3 (k * 36) 27 cur V8 rfl rfl rb hfit hzl8.out hon8.out ?_; intro w11 r11 hg11))
          have hl11 := hput.out w11 r11 hg11
          rw [← hnx2.out] at hl11
          have hrc11 : Cvs w11 (b.root, A3, c3) := Sl.apart hrc9 hg11 (fun hx a ha e => (HRC.out (cavs_pos hx) a ha).2 _ rfl e.symm)
          have hgr11 := grown_trans hgr9 hg11
          go_roundw
          case rel => exact ⟨k + 1, by omega, by go_num, hl11, hrc11, hgr11⟩
          case measure => simp [intOf]; omega
      · obtain rfl : k = ds3.length := by omega
        have eK := allK_all b.root.tag b.dis
        rw [hnl] at eK
        rw [eK] at hl
        have R5 := Lib.hid (show wr.heap[w3.heap.size]? = some (.cells V3.toArray 40 (0, 0)) from r5)
        have Q2 := Lib.hid (show wr.heap[w.heap.size + 1]? = some (.cells Z.toArray 40 (0, 0)) from r2)
        have HL := Lib.hid hl
        have hnk : ¬ ds3.length < ds3.length := Nat.lt_irrefl _
        clear hl hlt hk eK hgr
        obtain ⟨n, hne⟩ : ∃ n, n = ds3.length := ⟨_, rfl⟩
        rw [← hne] at HL HV3 hnk hbk ⊢
        clear hne hnl
        go_wp2_with (first
          | (with_reducible refine wpList_load_row rfl 40 (.tmp 5) rfl w3.heap.size rfl 40 V3.toArray (0, 0) _ R5.out Tryd.underlying40 rfl hz3.out ?_)
          | (have _t := Q2; refine wpList_store_row rfl 40 (.tmp 2) (.tmp 42) rfl (w.heap.size + 1) V3.toArray rfl rfl 40 Z.toArray Q2.out hz3.out hZ3.out ho3.out ?_; refine Hid.out ?_))
        refine Lib.hid ?_
        generalize hw8 : World.setRow _ _ _ = w8
        obtain ⟨r8, hg8⟩ := row_set (show Row wr (w.heap.size + 1) 40 Z from Q2.out) hw8
        have hb8 := hbw.grown hg8 hbw.size (fun k h => by cases h; omega)
        have R8 := Lib.hid (show w8.heap[w.heap.size + 1]? = some (.cells V3.toArray 40 (0, 0)) from r8)
        have hl8 := HL.out.set hg8 HL2.out
        obtain ⟨B', n', d', hBe, hbun⟩ := hl8.bun (Nat.le_refl _) b.root A3 c3 (Sl.apart hrc hg8 (fun hx a ha => by have := (HRC.out (cavs_pos hx) a ha).1; omega)) (fun hp a ha => (HRC.out hp a ha).1)
        injection hBe with q1 q2 q3
        subst q1 q2 q3
        have HBU := Lib.hid (hbun.mono (show w.heap.size ≤ w2.heap.size by omega))
        clear hw8 r8 Q2 hl8 hbun HL
        go_wp2_with fail
        exact ⟨rfl, _, results_row_tmp rfl _ _ (w.heap.size + 1) 40 V3.toArray (0, 0) _ rfl R8.out Tryd.underlying40 rfl hz3.out _ rfl, .agg V3.toArray, rfl, by rw [HV3.out]; exact HBU.out, hb8⟩
end Go.Proofs.YtnkkgclmmaakgaaDoor
