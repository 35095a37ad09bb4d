/- LAYER 4: package hmac's Of. -/
import Derived.Test.YtefbopgbikmohaaDoorHm
namespace Go.Proofs.YtefbopgbikmohaaDoor
open Go Go.RowKit

set_option maxRecDepth 20000 in
set_option maxHeartbeats 1000000 in
theorem mof_any (A : Option Addr) (n c : Nat) (K : List UInt8) (B : Option Addr) (m d : Nat) (ps : List Part) (w : World) (hT : Tabs w) (hs : Sl w A c (byts K)) (hn : n = K.length) (hp : Parts w B d ps) (hmn : m = ps.length)
    (hK : K.length ≤ 2305843009213693952) (hm : 64 + (flat ps).length ≤ 2305843009213693952) (hpl : ps.length ≤ 9223372036854775807) :
    Calls Tryd.prog 13 #[.slice A n c, .slice B m d] w fun e w' => e = .returned (.agg (byts (macL K (flat ps))).toArray) ∧ Below w.heap.size w w' := by
  subst hmn
  have hb0 := (Below.refl w.heap.size w).alloc (Nat.le_refl _) (.cells (List.replicate 32 (Value.int .u8 0)).toArray 23)
  have hnew := Lib.hid (mnew_any A n c K _ (hT.later hb0 (Nat.le_refl _)) (hs.later (Nat.le_refl _) hb0) hn hK)
  have HB0 := Lib.hid hb0
  clear hs hn hK hb0
  go_enter Tryd.func13, Tryd.ntmps13
  go_wp2_with (go_at_call 17; refine hnew.out.mono ?_; rintro e w1 ⟨g, gi, go, rfl, hgi, hgo, hd1, hb1⟩; have hbA : Below w.heap.size w w1 := HB0.out.trans (hb1.mono HB0.out.size); have r0 := (Row.new w 23 (List.replicate 32 (.int .u8 0))).later hb1 (Row.new w 23 (List.replicate 32 (.int .u8 0))).lt; rw [World.size_alloc] at hgi hgo; clear hb1 hnew)
  go_loopw [12] (fun i wr => ∃ k : Nat, k ≤ ps.length ∧ i = .int .i64 k ∧ Macd wr g gi go K (flat (ps.take k)) ∧ Row wr w.heap.size 23 (List.replicate 32 (.int .u8 0)) ∧ Below w.heap.size w wr) (fun i _ => ps.length - (intOf i).toNat)
  case atStart => exact ⟨0, by omega, rfl, hd1, r0, hbA⟩
  case round =>
    clear hd1 r0 hbA
    obtain ⟨k, hk, rfl, hd, r0, hb⟩ := hrel
    by_cases hlt : k < ps.length
    · obtain ⟨b, o, hA, _, _⟩ := hp.sl.rd.get (i := 0) (by rw [List.length_map]; omega)
      have hix := index_parts B b o ps.length d k hA hlt
      have hps := hp.later (Nat.le_refl _) hb
      rw [hA] at hps
      have hck := hps.get k hlt
      have hsk := hps.each ps[k] (List.getElem_mem hlt)
      have hsw := hp.each ps[k] (List.getElem_mem hlt)
      have HF := Lib.hid (flat_succ ps k hlt)
      have hfl := flat_le ps (k + 1)
      rw [HF.out, List.length_append] at hfl
      unfold partV at hck
      obtain ⟨⟨Ak, ck, lk⟩, hpk⟩ : ∃ p, p = ps[k] := ⟨_, rfl⟩
      rw [← hpk] at hck hsk hsw HF hfl
      dsimp only at hck hsk hsw HF hfl
      have hml : 64 + (flat (ps.take k)).length + lk.length ≤ 4611686018427387904 := by omega
      have HA := Lib.hid hA
      clear hpk hps hfl hA
      go_wp2_with (go_at_call 18; refine (mwrite_any g gi go lk.length K (flat (ps.take k)) lk Ak ck _ (hT.cu.later hb (Nat.le_refl _)) hd hsk (fun h a ha => by have := hsw.block_lt (by rw [length_byts]; exact h) ha; omega) rfl hml).mono ?_; rintro e w3 ⟨rfl, hd3, hg3⟩)
      have hb3 := hb.grown hg3 hb.size (fun k h => by cases h; omega)
      have r3 := r0.grown hg3 (by omega)
      clear hd hb r0 hg3 hck hsk hsw hix
      go_roundw
      case rel => exact ⟨k + 1, by omega, by go_num, by rw [HF.out]; exact hd3, r3, hb3⟩
      case measure => simp [intOf]; omega
    · rw [flat_all ps k (by omega)] at hd
      have hC := hT.cu.later hb (Nat.le_refl _)
      obtain ⟨V, hVq⟩ : ∃ V, V = byts (macL K (flat ps)) := ⟨_, rfl⟩
      have hsum := Lib.hid (show Calls Tryd.prog 19 #[.pointer (some ⟨g, 0, none⟩)] wr fun e w' => e = .returned (.agg V.toArray) ∧ Below wr.heap.size wr w' by rw [hVq]; exact msum_any g gi go K (flat ps) wr hC hd hm)
      have hVl : V.length = 32 := by rw [hVq]; exact store_tag
      have hone := Lib.hid (all_one (show ∀ v ∈ V, v.oneCell' = true by rw [hVq]; exact byts_one _))
      have hsz := Lib.hid (show (Tryd.prog.info? 23).map (·.size) = some V.toArray.size by rw [size_tag, List.size_toArray, hVl])
      have hszo := Lib.hid (show (List.replicate 32 (Value.int .u8 0)).toArray.size = V.toArray.size by rw [List.size_toArray, List.size_toArray, List.length_replicate, hVl])
      have HV := Lib.hid hVq
      clear hVq hVl hC hd
      go_wp2_with (first
        | (go_at_call 19; refine hsum.out.mono ?_; rintro e w3 ⟨rfl, hb3⟩; have R0 := Lib.hid (show w3.heap[w.heap.size]? = some (.cells (List.replicate 32 (Value.int .u8 0)).toArray 23 (0, 0)) from r0.later hb3 r0.lt))
        | ((with_reducible refine wpList_store_row rfl 23 (.tmp 4) (.tmp 21) rfl w.heap.size V.toArray rfl rfl 23 _ R0.out hsz.out hszo.out hone.out ?_); have HG := Lib.hid (setRow_heap w3 w.heap.size _ V.toArray 23 (0, 0) R0.out))
        | (with_reducible refine bodyPost_ret (results_cell_row rfl _ _ w.heap.size 23 V.toArray (0, 0) (.array 32 5) rfl HG.out Tryd.underlying23 rfl hsz.out) rfl ?_))
      exact ⟨by rw [HV.out], below_setRow (hb.trans (hb3.mono hb.size)) (Nat.le_refl _) _⟩
end Go.Proofs.YtefbopgbikmohaaDoor
