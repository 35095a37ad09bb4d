/- LAYER 3: package digest's Of. -/
import Derived.Test.YtefbopgbikmohaaDoorDs
namespace Go.Proofs.YtefbopgbikmohaaDoor
open Go Go.RowKit

/-- A part: where its bytes lie, its room, its bytes. -/
abbrev Part := Option Addr × Nat × List UInt8
def partV (p : Part) : Value := .slice p.1 p.2.2.length p.2.1
/-- The slice value '.slice A (length of ps) c' holds the parts ps: nil let in. -/
structure Parts (w : World) (A : Option Addr) (c : Nat) (ps : List Part) : Prop where
  sl : Sl w A c (ps.map partV)
  each : ∀ p ∈ ps, Sl w p.1 p.2.1 (byts p.2.2)
def flat (ps : List Part) : List UInt8 := ps.flatMap (·.2.2)
theorem Parts.later {w w' : World} {A : Option Addr} {c : Nat} {ps : List Part} {B : Nat} (h : Parts w A c ps) (hB : w.heap.size ≤ B) (hb : Below B w w') : Parts w' A c ps :=
  ⟨h.sl.later hB hb, fun p hp => (h.each p hp).later hB hb⟩
theorem flat_succ (ps : List Part) (k : Nat) (h : k < ps.length) : flat (ps.take (k + 1)) = flat (ps.take k) ++ ps[k].2.2 := by
  unfold flat
  rw [List.take_add_one, List.flatMap_append]
  simp [h]
theorem flat_all (ps : List Part) (k : Nat) (h : ps.length ≤ k) : flat (ps.take k) = flat ps := by rw [List.take_of_length_le h]
theorem flat_le (ps : List Part) (k : Nat) : (flat (ps.take k)).length ≤ (flat ps).length := by
  have e : flat ps = flat (ps.take k) ++ flat (ps.drop k) := by unfold flat; rw [← List.flatMap_append, List.take_append_drop]
  rw [e, List.length_append]; omega
/-- What a slice of the call's own parts holds, one part at a time. -/
theorem Parts.get {w : World} {b o c : Nat} {ps : List Part} (h : Parts w (some ⟨b, o, none⟩) c ps) (k : Nat) (hk : k < ps.length) : w.cell? ⟨b, o + k, none⟩ = some (partV ps[k]) := by
  obtain ⟨b', o', he, _, hc⟩ := h.sl.rd.get (i := k) (by rw [List.length_map]; exact hk)
  cases he
  rw [hc, List.getElem?_map, List.getElem?_eq_getElem hk]; rfl
theorem store_tag {l : List UInt8} : (byts (shaL l)).length = 32 := by rw [length_byts]; rfl
set_option maxRecDepth 20000 in
set_option maxHeartbeats 1000000 in
theorem of_some (b o c : Nat) (ps : List Part) (w : World) (hT : Tabs w) (hp : Parts w (some ⟨b, o, none⟩) c ps) (hm : (flat ps).length ≤ 2305843009213693952) (hpl : ps.length ≤ 9223372036854775807) :
    Calls Tryd.prog 31 #[.slice (some ⟨b, o, none⟩) ps.length c] w fun e w' => e = .returned (.agg (byts (shaL (flat ps))).toArray) ∧ Below w.heap.size w w' := by
  go_enter Tryd.func31, Tryd.ntmps31
  go_wp2_with (go_at_call 32; refine (new_any _ (hT.later ((Below.refl _ _).alloc (Nat.le_refl _) _) (Nat.le_refl _))).mono ?_; rintro e w1 ⟨g, rfl, hg1, hd1, hb1⟩; have hbA : Below w.heap.size w w1 := ((Below.refl _ _).alloc (Nat.le_refl _) _).trans (hb1.mono (by rw [World.size_alloc]; omega)); have r0 := (Row.new w 23 (List.replicate 32 (.int .u8 0))).later hb1 (Row.new w 23 (List.replicate 32 (.int .u8 0))).lt; rw [World.size_alloc] at hg1; clear hb1)
  go_loopw [9] (fun i wr => ∃ k : Nat, k ≤ ps.length ∧ i = .int .i64 k ∧ Dgt wr g (flat (ps.take k)) ∧ Row wr w.heap.size 23 (List.replicate 32 (.int .u8 0)) ∧ Below w.heap.size w wr) (fun i _ => ps.length - (intOf i).toNat)
  case atStart => exact ⟨0, by omega, rfl, hd1, r0, hbA⟩
  case round =>
    clear hd1 r0 hbA
    obtain ⟨k, hk, rfl, hd, r0, hb⟩ := hrel
    by_cases hlt : k < ps.length
    · have hps := hp.later (Nat.le_refl _) hb
      have hck := hps.get k hlt
      have hsk := hps.each ps[k] (List.getElem_mem hlt)
      have hsw := hp.each ps[k] (List.getElem_mem hlt)
      have HF := Lib.hid (flat_succ ps k hlt)
      have hfl := flat_le ps (k + 1)
      rw [HF.out, List.length_append] at hfl
      unfold partV at hck
      obtain ⟨⟨Ak, ck, lk⟩, hpk⟩ : ∃ p, p = ps[k] := ⟨_, rfl⟩
      rw [← hpk] at hck hsk hsw HF hfl
      dsimp only at hck hsk hsw HF hfl
      have hml : (flat (ps.take k)).length + lk.length ≤ 4611686018427387904 := by omega
      clear hpk hps hfl
      go_wp2_with (go_at_call 24; refine (write_any g (flat (ps.take k)) lk Ak ck _ (hT.cu.later hb (Nat.le_refl _)) hd hsk (fun h a ha => by have := hsw.block_lt (by rw [length_byts]; exact h) ha; omega) hml).mono ?_; rintro e w3 ⟨rfl, hd3, hg3⟩)
      have hb3 := hb.grown hg3 hb.size (fun k h => by cases h; omega)
      have r3 := r0.grown hg3 (by omega)
      clear hd hb r0 hg3 hck hsk hsw
      go_roundw
      case rel => exact ⟨k + 1, by omega, by go_num, by rw [HF.out]; exact hd3, r3, hb3⟩
      case measure => simp [intOf]; omega
    · rw [flat_all ps k (by omega)] at hd
      have hC := hT.cu.later hb (Nat.le_refl _)
      obtain ⟨V, hVq⟩ : ∃ V, V = byts (shaL (flat ps)) := ⟨_, rfl⟩
      have hsum := Lib.hid (show Calls Tryd.prog 25 #[.pointer (some ⟨g, 0, none⟩)] wr fun e w' => e = .returned (.agg V.toArray) ∧ Below wr.heap.size wr w' by rw [hVq]; exact sum_any g (flat ps) wr hC hd hm)
      have hVl : V.length = 32 := by rw [hVq]; exact store_tag
      have hone := Lib.hid (all_one (show ∀ v ∈ V, v.oneCell' = true by rw [hVq]; exact byts_one _))
      have hsz := Lib.hid (show (Tryd.prog.info? 23).map (·.size) = some V.toArray.size by rw [size_tag, List.size_toArray, hVl])
      have hszo := Lib.hid (show (List.replicate 32 (Value.int .u8 0)).toArray.size = V.toArray.size by rw [List.size_toArray, List.size_toArray, List.length_replicate, hVl])
      have HV := Lib.hid hVq
      clear hVq hVl hC hd
      go_wp2_with (first
        | (go_at_call 25; refine hsum.out.mono ?_; rintro e w3 ⟨rfl, hb3⟩; have R0 := Lib.hid (show w3.heap[w.heap.size]? = some (.cells (List.replicate 32 (Value.int .u8 0)).toArray 23 (0, 0)) from r0.later hb3 r0.lt))
        | ((with_reducible refine wpList_store_row rfl 23 (.tmp 2) (.tmp 18) rfl w.heap.size V.toArray rfl rfl 23 _ R0.out hsz.out hszo.out hone.out ?_); have HG := Lib.hid (setRow_heap w3 w.heap.size _ V.toArray 23 (0, 0) R0.out))
        | (with_reducible refine bodyPost_ret (results_cell_row rfl _ _ w.heap.size 23 V.toArray (0, 0) (.array 32 5) rfl HG.out Tryd.underlying23 rfl hsz.out) rfl ?_))
      exact ⟨by rw [HV.out], below_setRow (hb.trans (hb3.mono hb.size)) (Nat.le_refl _) _⟩
set_option maxRecDepth 20000 in
set_option maxHeartbeats 1000000 in
theorem of_nil (A : Option Addr) (c : Nat) (w : World) (hT : Tabs w) :
    Calls Tryd.prog 31 #[.slice A 0 c] w fun e w' => e = .returned (.agg (byts (shaL [])).toArray) ∧ Below w.heap.size w w' := by
  go_enter Tryd.func31, Tryd.ntmps31
  go_wp2_with (go_at_call 32; refine (new_any _ (hT.later ((Below.refl _ _).alloc (Nat.le_refl _) _) (Nat.le_refl _))).mono ?_; rintro e w1 ⟨g, rfl, hg1, hd1, hb1⟩; have hbA : Below w.heap.size w w1 := ((Below.refl _ _).alloc (Nat.le_refl _) _).trans (hb1.mono (by rw [World.size_alloc]; omega)); have r0 := (Row.new w 23 (List.replicate 32 (.int .u8 0))).later hb1 (Row.new w 23 (List.replicate 32 (.int .u8 0))).lt; rw [World.size_alloc] at hg1; clear hb1)
  go_loopw [9] (fun i wr => i = .int .i64 0 ∧ Dgt wr g [] ∧ Row wr w.heap.size 23 (List.replicate 32 (.int .u8 0)) ∧ Below w.heap.size w wr) (fun i _ => 0 - (intOf i).toNat)
  case atStart => exact ⟨rfl, hd1, r0, hbA⟩
  case round =>
      clear hd1 r0 hbA
      obtain ⟨rfl, hd, r0, hb⟩ := hrel
      have hC := hT.cu.later hb (Nat.le_refl _)
      obtain ⟨V, hVq⟩ : ∃ V, V = byts (shaL []) := ⟨_, rfl⟩
      have hsum := Lib.hid (show Calls Tryd.prog 25 #[.pointer (some ⟨g, 0, none⟩)] wr fun e w' => e = .returned (.agg V.toArray) ∧ Below wr.heap.size wr w' by rw [hVq]; exact sum_any g [] wr hC hd (by simp))
      have hVl : V.length = 32 := by rw [hVq]; exact store_tag
      have hone := Lib.hid (all_one (show ∀ v ∈ V, v.oneCell' = true by rw [hVq]; exact byts_one _))
      have hsz := Lib.hid (show (Tryd.prog.info? 23).map (·.size) = some V.toArray.size by rw [size_tag, List.size_toArray, hVl])
      have hszo := Lib.hid (show (List.replicate 32 (Value.int .u8 0)).toArray.size = V.toArray.size by rw [List.size_toArray, List.size_toArray, List.length_replicate, hVl])
      have HV := Lib.hid hVq
      clear hVq hVl hC hd
      go_wp2_with (first
        | (go_at_call 25; refine hsum.out.mono ?_; rintro e w3 ⟨rfl, hb3⟩; have R0 := Lib.hid (show w3.heap[w.heap.size]? = some (.cells (List.replicate 32 (Value.int .u8 0)).toArray 23 (0, 0)) from r0.later hb3 r0.lt))
        | ((with_reducible refine wpList_store_row rfl 23 (.tmp 2) (.tmp 18) rfl w.heap.size V.toArray rfl rfl 23 _ R0.out hsz.out hszo.out hone.out ?_); have HG := Lib.hid (setRow_heap w3 w.heap.size _ V.toArray 23 (0, 0) R0.out))
        | (with_reducible refine bodyPost_ret (results_cell_row rfl _ _ w.heap.size 23 V.toArray (0, 0) (.array 32 5) rfl HG.out Tryd.underlying23 rfl hsz.out) rfl ?_))
      exact ⟨by rw [HV.out], below_setRow (hb.trans (hb3.mono hb.size)) (Nat.le_refl _) _⟩
theorem of_any (A : Option Addr) (n c : Nat) (ps : List Part) (w : World) (hT : Tabs w) (hp : Parts w A c ps) (hn : n = ps.length) (hm : (flat ps).length ≤ 2305843009213693952) (hpl : ps.length ≤ 9223372036854775807) :
    Calls Tryd.prog 31 #[.slice A n c] w fun e w' => e = .returned (.agg (byts (shaL (flat ps))).toArray) ∧ Below w.heap.size w w' := by
  subst hn
  by_cases h0 : 0 < ps.length
  · obtain ⟨b, o, rfl, _⟩ := hp.sl.rd.get (i := 0) (by rw [List.length_map]; exact h0)
    exact of_some b o c ps w hT hp hm hpl
  · obtain rfl : ps = [] := List.eq_nil_of_length_eq_zero (by omega)
    exact of_nil A c w hT
end Go.Proofs.YtefbopgbikmohaaDoor
