/- Texts of this claim, one behind the other. -/
import Derived.StillTailTactics
import Derived.Deep.AppendLies
import Derived.Test.YtlocgfekgbdlmaaDoorMa
import Derived.Test.YtlocgfekgbdlmaaDoorMb
/- LAYER 3: package digest's Of. -/
namespace Go.Proofs.YtlocgfekgbdlmaaDoor
open Go Go.RowKit

/-- A part: where its bytes lie, its room, its bytes. -/
abbrev Part := Option Addr × Nat × List UInt8
def partV (p : Part) : Value := .slice p.1 p.2.2.length p.2.1
/-- The slice value '.slice A (length of ps) c' holds the parts ps: nil let in. -/
structure Parts (w : World) (A : Option Addr) (c : Nat) (ps : List Part) : Prop where
  sl : Sl w A c (ps.map partV)
  each : ∀ p ∈ ps, Sl w p.1 p.2.1 (byts p.2.2)
def flat (ps : List Part) : List UInt8 := ps.flatMap (·.2.2)
theorem Parts.later {w w' : World} {A : Option Addr} {c : Nat} {ps : List Part} {B : Nat} (h : Parts w A c ps) (hB : w.heap.size ≤ B) (hb : Below B w w') : Parts w' A c ps :=
  ⟨h.sl.later hB hb, fun p hp => (h.each p hp).later hB hb⟩
theorem flat_succ (ps : List Part) (k : Nat) (h : k < ps.length) : flat (ps.take (k + 1)) = flat (ps.take k) ++ ps[k].2.2 := by
  unfold flat
  rw [List.take_add_one, List.flatMap_append]
  simp [h]
theorem flat_all (ps : List Part) (k : Nat) (h : ps.length ≤ k) : flat (ps.take k) = flat ps := by rw [List.take_of_length_le h]
theorem flat_le (ps : List Part) (k : Nat) : (flat (ps.take k)).length ≤ (flat ps).length := by
  have e : flat ps = flat (ps.take k) ++ flat (ps.drop k) := by unfold flat; rw [← List.flatMap_append, List.take_append_drop]
  rw [e, List.length_append]; omega
/-- What a slice of the call's own parts holds, one part at a time. -/
theorem Parts.get {w : World} {b o c : Nat} {ps : List Part} (h : Parts w (some ⟨b, o, none⟩) c ps) (k : Nat) (hk : k < ps.length) : w.cell? ⟨b, o + k, none⟩ = some (partV ps[k]) := by
  obtain ⟨b', o', he, _, hc⟩ := h.sl.rd.get (i := k) (by rw [List.length_map]; exact hk)
  cases he
  rw [hc, List.getElem?_map, List.getElem?_eq_getElem hk]; rfl
theorem store_tag {l : List UInt8} : (byts (shaL l)).length = 32 := by rw [length_byts]; rfl
set_option maxRecDepth 20000 in
set_option maxHeartbeats 1000000 in
theorem of_some (b o c : Nat) (ps : List Part) (w : World) (hT : Tabs w) (hp : Parts w (some ⟨b, o, none⟩) c ps) (hm : (flat ps).length ≤ 2305843009213693952) (hpl : ps.length ≤ 9223372036854775807) :
    Calls Tryd.prog 46 #[.slice (some ⟨b, o, none⟩) ps.length c] w fun e w' => e = .returned (.agg (byts (shaL (flat ps))).toArray) ∧ Below w.heap.size w w' := by
  go_enter Tryd.func46, Tryd.ntmps46
  go_wp2_with (go_at_call 47; refine (new_any _ (hT.later ((Below.refl _ _).alloc (Nat.le_refl _) _) (Nat.le_refl _))).mono ?_; rintro e w1 ⟨g, rfl, hg1, hd1, hb1⟩; have hbA : Below w.heap.size w w1 := ((Below.refl _ _).alloc (Nat.le_refl _) _).trans (hb1.mono (by rw [World.size_alloc]; omega)); have r0 := (Row.new w 23 (List.replicate 32 (.int .u8 0))).later hb1 (Row.new w 23 (List.replicate 32 (.int .u8 0))).lt; rw [World.size_alloc] at hg1; clear hb1)
  go_loopw [9] (fun i wr => ∃ k : Nat, k ≤ ps.length ∧ i = .int .i64 k ∧ Dgt wr g (flat (ps.take k)) ∧ Row wr w.heap.size 23 (List.replicate 32 (.int .u8 0)) ∧ Below w.heap.size w wr) (fun i _ => ps.length - (intOf i).toNat)
  case atStart => exact ⟨0, by omega, rfl, hd1, r0, hbA⟩
  case round =>
    clear hd1 r0 hbA
    obtain ⟨k, hk, rfl, hd, r0, hb⟩ := hrel
    by_cases hlt : k < ps.length
    · have hps := hp.later (Nat.le_refl _) hb
      have hck := hps.get k hlt
      have hsk := hps.each ps[k] (List.getElem_mem hlt)
      have hsw := hp.each ps[k] (List.getElem_mem hlt)
      have HF := Lib.hid (flat_succ ps k hlt)
      have hfl := flat_le ps (k + 1)
      rw [HF.out, List.length_append] at hfl
      unfold partV at hck
      obtain ⟨⟨Ak, ck, lk⟩, hpk⟩ : ∃ p, p = ps[k] := ⟨_, rfl⟩
      rw [← hpk] at hck hsk hsw HF hfl
      dsimp only at hck hsk hsw HF hfl
      have hml : (flat (ps.take k)).length + lk.length ≤ 4611686018427387904 := by omega
      clear hpk hps hfl
      go_wp2_with (go_at_call 40; refine (write_any g (flat (ps.take k)) lk Ak ck _ (hT.cu.later hb (Nat.le_refl _)) hd hsk (fun h a ha => by have := hsw.block_lt (by rw [length_byts]; exact h) ha; omega) hml).mono ?_; rintro e w3 ⟨rfl, hd3, hg3⟩)
      have hb3 := hb.grown hg3 hb.size (fun k h => by cases h; omega)
      have r3 := r0.grown hg3 (by omega)
      clear hd hb r0 hg3 hck hsk hsw
      go_roundw
      case rel => exact ⟨k + 1, by omega, by go_num, by rw [HF.out]; exact hd3, r3, hb3⟩
      case measure => simp [intOf]; omega
    · rw [flat_all ps k (by omega)] at hd
      have hC := hT.cu.later hb (Nat.le_refl _)
      obtain ⟨V, hVq⟩ : ∃ V, V = byts (shaL (flat ps)) := ⟨_, rfl⟩
      have hsum := Lib.hid (show Calls Tryd.prog 41 #[.pointer (some ⟨g, 0, none⟩)] wr fun e w' => e = .returned (.agg V.toArray) ∧ Below wr.heap.size wr w' by rw [hVq]; exact sum_any g (flat ps) wr hC hd hm)
      have hVl : V.length = 32 := by rw [hVq]; exact store_tag
      have hone := Lib.hid (all_one (show ∀ v ∈ V, v.oneCell' = true by rw [hVq]; exact byts_one _))
      have hsz := Lib.hid (show (Tryd.prog.info? 23).map (·.size) = some V.toArray.size by rw [size_tag, List.size_toArray, hVl])
      have hszo := Lib.hid (show (List.replicate 32 (Value.int .u8 0)).toArray.size = V.toArray.size by rw [List.size_toArray, List.size_toArray, List.length_replicate, hVl])
      have HV := Lib.hid hVq
      clear hVq hVl hC hd
      go_wp2_with (first
        | (go_at_call 41; refine hsum.out.mono ?_; rintro e w3 ⟨rfl, hb3⟩; have R0 := Lib.hid (show w3.heap[w.heap.size]? = some (.cells (List.replicate 32 (Value.int .u8 0)).toArray 23 (0, 0)) from r0.later hb3 r0.lt))
        | ((with_reducible refine wpList_store_row rfl 23 (.tmp 2) (.tmp 18) rfl w.heap.size V.toArray rfl rfl 23 _ R0.out hsz.out hszo.out hone.out ?_); have HG := Lib.hid (setRow_heap w3 w.heap.size _ V.toArray 23 (0, 0) R0.out))
        | (with_reducible refine bodyPost_ret (results_cell_row rfl _ _ w.heap.size 23 V.toArray (0, 0) (.array 32 5) rfl HG.out Tryd.underlying23 rfl hsz.out) rfl ?_))
      exact ⟨by rw [HV.out], below_setRow (hb.trans (hb3.mono hb.size)) (Nat.le_refl _) _⟩
set_option maxRecDepth 20000 in
set_option maxHeartbeats 1000000 in
theorem of_nil (A : Option Addr) (c : Nat) (w : World) (hT : Tabs w) :
    Calls Tryd.prog 46 #[.slice A 0 c] w fun e w' => e = .returned (.agg (byts (shaL [])).toArray) ∧ Below w.heap.size w w' := by
  go_enter Tryd.func46, Tryd.ntmps46
  go_wp2_with (go_at_call 47; refine (new_any _ (hT.later ((Below.refl _ _).alloc (Nat.le_refl _) _) (Nat.le_refl _))).mono ?_; rintro e w1 ⟨g, rfl, hg1, hd1, hb1⟩; have hbA : Below w.heap.size w w1 := ((Below.refl _ _).alloc (Nat.le_refl _) _).trans (hb1.mono (by rw [World.size_alloc]; omega)); have r0 := (Row.new w 23 (List.replicate 32 (.int .u8 0))).later hb1 (Row.new w 23 (List.replicate 32 (.int .u8 0))).lt; rw [World.size_alloc] at hg1; clear hb1)
  go_loopw [9] (fun i wr => i = .int .i64 0 ∧ Dgt wr g [] ∧ Row wr w.heap.size 23 (List.replicate 32 (.int .u8 0)) ∧ Below w.heap.size w wr) (fun i _ => 0 - (intOf i).toNat)
  case atStart => exact ⟨rfl, hd1, r0, hbA⟩
  case round =>
      clear hd1 r0 hbA
      obtain ⟨rfl, hd, r0, hb⟩ := hrel
      have hC := hT.cu.later hb (Nat.le_refl _)
      obtain ⟨V, hVq⟩ : ∃ V, V = byts (shaL []) := ⟨_, rfl⟩
      have hsum := Lib.hid (show Calls Tryd.prog 41 #[.pointer (some ⟨g, 0, none⟩)] wr fun e w' => e = .returned (.agg V.toArray) ∧ Below wr.heap.size wr w' by rw [hVq]; exact sum_any g [] wr hC hd (by simp))
      have hVl : V.length = 32 := by rw [hVq]; exact store_tag
      have hone := Lib.hid (all_one (show ∀ v ∈ V, v.oneCell' = true by rw [hVq]; exact byts_one _))
      have hsz := Lib.hid (show (Tryd.prog.info? 23).map (·.size) = some V.toArray.size by rw [size_tag, List.size_toArray, hVl])
      have hszo := Lib.hid (show (List.replicate 32 (Value.int .u8 0)).toArray.size = V.toArray.size by rw [List.size_toArray, List.size_toArray, List.length_replicate, hVl])
      have HV := Lib.hid hVq
      clear hVq hVl hC hd
      go_wp2_with (first
        | (go_at_call 41; refine hsum.out.mono ?_; rintro e w3 ⟨rfl, hb3⟩; have R0 := Lib.hid (show w3.heap[w.heap.size]? = some (.cells (List.replicate 32 (Value.int .u8 0)).toArray 23 (0, 0)) from r0.later hb3 r0.lt))
        | ((with_reducible refine wpList_store_row rfl 23 (.tmp 2) (.tmp 18) rfl w.heap.size V.toArray rfl rfl 23 _ R0.out hsz.out hszo.out hone.out ?_); have HG := Lib.hid (setRow_heap w3 w.heap.size _ V.toArray 23 (0, 0) R0.out))
        | (with_reducible refine bodyPost_ret (results_cell_row rfl _ _ w.heap.size 23 V.toArray (0, 0) (.array 32 5) rfl HG.out Tryd.underlying23 rfl hsz.out) rfl ?_))
      exact ⟨by rw [HV.out], below_setRow (hb.trans (hb3.mono hb.size)) (Nat.le_refl _) _⟩
theorem of_any (A : Option Addr) (n c : Nat) (ps : List Part) (w : World) (hT : Tabs w) (hp : Parts w A c ps) (hn : n = ps.length) (hm : (flat ps).length ≤ 2305843009213693952) (hpl : ps.length ≤ 9223372036854775807) :
    Calls Tryd.prog 46 #[.slice A n c] w fun e w' => e = .returned (.agg (byts (shaL (flat ps))).toArray) ∧ Below w.heap.size w w' := by
  subst hn
  by_cases h0 : 0 < ps.length
  · obtain ⟨b, o, rfl, _⟩ := hp.sl.rd.get (i := 0) (by rw [List.length_map]; exact h0)
    exact of_some b o c ps w hT hp hm hpl
  · obtain rfl : ps = [] := List.eq_nil_of_length_eq_zero (by omega)
    exact of_nil A c w hT
end Go.Proofs.YtlocgfekgbdlmaaDoor

/- LAYER 3: what walks over digests share: parts, slices cut out of slices, rows written whole. -/
namespace Go.Proofs.YtlocgfekgbdlmaaDoor
open Go Go.RowKit

theorem write_at (g n : Nat) (l b : List UInt8) (A : Option Addr) (c : Nat) (w : World) (hT : Cube w) (hd : Dgt w g l) (hs : Sl w A c (byts b)) (hA : 0 < b.length → ∀ a, A = some a → a.block ≠ g) (hn : n = b.length) (hm : l.length + b.length ≤ 4611686018427387904) :
    Calls Tryd.prog 40 #[.pointer (some ⟨g, 0, none⟩), .slice A n c] w fun e w' => e = .returned (.tuple #[]) ∧ Dgt w' g (l ++ b) ∧ w.grownBy w' (some g) := by
  subst hn
  exact write_any g l b A c w hT hd hs hA hm
theorem infoSlice : (Tryd.prog.info? 28).map (fun i => (i.zero, i.size, i.bytes)) = some (some (.slice none 0 0), 1, 24) := by kernel_rfl
/-- A part alone, in a list of its own. -/
theorem parts_one {w : World} {A : Option Addr} {c : Nat} {l : List UInt8} (h : Sl w A c (byts l)) : Parts (w.alloc (.cells #[.slice A l.length c] 28)) (some ⟨w.heap.size, 0, none⟩) 1 [(A, c, l)] := by
  have r := Row.new w 28 [.slice A l.length c]
  refine ⟨⟨Rd.row (ys := []) (by rw [List.append_nil]; exact r), by simp, fun h => by cases h⟩, fun p hp => ?_⟩
  obtain rfl : p = (A, c, l) := by simpa using hp
  exact h.later (Nat.le_refl _) ((Below.refl _ w).alloc (Nat.le_refl _) _)
theorem flat_one (A : Option Addr) (c : Nat) (l : List UInt8) : flat [(A, c, l)] = l := by unfold flat; simp
theorem flat_snoc (ps : List Part) (A : Option Addr) (c : Nat) (l : List UInt8) : flat (ps ++ [(A, c, l)]) = flat ps ++ l := by unfold flat; simp
theorem parts_all (ps : List Part) : ∀ v ∈ ps.map partV, v.oneCell' = true := by
  intro v hv
  obtain ⟨_, _, rfl⟩ := List.mem_map.1 hv
  rfl
theorem take_more (l : List UInt8) (i j : Nat) (h : i ≤ j) : l.take i ++ (l.drop i).take (j - i) = l.take j := by
  rw [← List.take_add, show i + (j - i) = j by omega]
theorem index_parts (A : Option Addr) (b o n c k : Nat) (hA : A = some ⟨b, o, none⟩) (hk : k < n) (w : World) :
    (Instr.indexAt 55 (.slice A n c) (.int .i64 k)).run Tryd.prog w = .ok (.pointer (some ⟨b, o + k, none⟩)) w := by
  subst hA
  have h : (k : Int) < (n : Int) := by omega
  go_simp
theorem sl_three (w : World) (C : Array Value) (hC : C = (byts [1, 2, 3]).toArray) : Sl (w.alloc (.cells C 5)) (some ⟨w.heap.size, 0, none⟩) 3 (byts [1, 2, 3]) := by
  subst hC
  exact ⟨Rd.row (ys := []) (by rw [List.append_nil]; exact Row.new w 5 (byts [1, 2, 3])), by simp [length_byts], fun h => by cases h⟩
end Go.Proofs.YtlocgfekgbdlmaaDoor

/- LAYER 4: HMAC as a list function; package hmac's whole and begun. -/
namespace Go.Proofs.YtlocgfekgbdlmaaDoor
open Go Go.RowKit

/-- A key as 64 bytes. -/
def shortL (k : List UInt8) : List UInt8 := if k.length ≤ 64 then k else shaL k
def keyL (k : List UInt8) : List UInt8 := shortL k ++ List.replicate (64 - (shortL k).length) 0
def xorL (x : UInt8) (l : List UInt8) : List UInt8 := l.map (· ^^^ x)
/-- HMAC of SHA-256. -/
def macL (k l : List UInt8) : List UInt8 := shaL (xorL 92 (keyL k) ++ shaL (xorL 54 (keyL k) ++ l))
theorem length_shortL (k : List UInt8) : (shortL k).length ≤ 64 := by
  unfold shortL
  split
  · assumption
  · rw [length_shaL]; omega
theorem length_keyL (k : List UInt8) : (keyL k).length = 64 := by
  unfold keyL
  have := length_shortL k
  rw [List.length_append, List.length_replicate]; omega
theorem length_xorL (x : UInt8) (l : List UInt8) : (xorL x l).length = l.length := by unfold xorL; simp
theorem length_macL (k l : List UInt8) : (macL k l).length = 32 := length_shaL _
/-- Bytes laid over 64 bytes 0. -/
theorem splice_zeros (s : List UInt8) : splice (List.replicate 64 (Value.int .u8 0)) 0 (byts s) = byts (s ++ List.replicate (64 - s.length) 0) := by
  unfold splice
  rw [List.take_zero, List.nil_append, Nat.zero_add, List.drop_replicate, byts_append, byts_zeros, length_byts]
theorem size_blk : (Tryd.prog.info? 64).map (·.size) = some 64 := by kernel_rfl
theorem parts_two {w : World} {A : Option Addr} {c : Nat} {l : List UInt8} (h : Sl w A c (byts l)) (X Y : Obj) : Parts (((w.alloc X).alloc Y).alloc (.cells #[.slice A l.length c] 28)) (some ⟨w.heap.size + 1 + 1, 0, none⟩) 1 [(A, c, l)] := by
  have h := parts_one (h.later (Nat.le_refl _) (below_two w X Y))
  rw [World.size_alloc, World.size_alloc] at h
  exact h
theorem getD_split (x : UInt8) (k : List UInt8) (j : Nat) (h : j < k.length) : (xorL x (k.take j) ++ k.drop j).getD j 0 = k.getD j 0 := by
  have hl : (xorL x (k.take j)).length = j := by rw [length_xorL, List.length_take]; omega
  rw [List.getD_eq_getElem?_getD, List.getElem?_append_right (by omega), hl, Nat.sub_self, List.getElem?_drop, Nat.add_zero, List.getD_eq_getElem?_getD]
theorem xor_succ (x : UInt8) (k : List UInt8) (j : Nat) (h : j < k.length) : (xorL x (k.take j) ++ k.drop j).set j (k.getD j 0 ^^^ x) = xorL x (k.take (j + 1)) ++ k.drop (j + 1) := by
  have hl : (xorL x (k.take j)).length = j := by rw [length_xorL, List.length_take]; omega
  have e : k.take (j + 1) = k.take j ++ [k[j]] := by rw [List.take_add_one]; simp [h]
  have g : k.getD j 0 = k[j] := by simp [h]
  rw [List.set_append_right _ _ (by omega), hl, Nat.sub_self, List.drop_eq_getElem_cons h, List.set_cons_zero, e, g]
  unfold xorL
  rw [List.map_append, List.append_assoc]
  rfl
set_option maxRecDepth 20000 in
set_option maxHeartbeats 1000000 in
theorem whole_any (A : Option Addr) (n c : Nat) (k : List UInt8) (w : World) (hT : Tabs w) (hs : Sl w A c (byts k)) (hn : n = k.length) (hm : k.length ≤ 2305843009213693952) :
    Calls Tryd.prog 38 #[.slice A n c] w fun e w' => e = .returned (.agg (byts (keyL k)).toArray) ∧ Below w.heap.size w w' := by
  subst hn
  obtain ⟨V, hVq⟩ : ∃ V, V = byts (keyL k) := ⟨_, rfl⟩
  have hVl : V.length = 64 := by rw [hVq, length_byts, length_keyL]
  have hone := Lib.hid (all_one (show ∀ v ∈ V, v.oneCell' = true by rw [hVq]; exact byts_one _))
  have hsz := Lib.hid (show (Tryd.prog.info? 64).map (·.size) = some V.toArray.size by rw [size_blk, List.size_toArray, hVl])
  have hszo := Lib.hid (show (List.replicate 64 (Value.int .u8 0)).toArray.size = V.toArray.size by rw [List.size_toArray, List.size_toArray, List.length_replicate, hVl])
  have HV := Lib.hid hVq
  by_cases h64 : k.length ≤ 64
  · have HSP := Lib.hid (show splice (List.replicate 64 (Value.int .u8 0)) 0 (byts k) = V by rw [hVq, splice_zeros]; unfold keyL shortL; rw [if_pos h64])
    have hcl : (byts k).length = Nat.min k.length 64 := by rw [length_byts]; show _ = min _ _; omega
    have hle := Lib.hid (show (byts k).length ≤ 64 by rw [length_byts]; exact h64)
    clear hVq hVl
    go_enter Tryd.func38, Tryd.ntmps38
    go_wp2_with (first
      | ((with_reducible refine wpList_copy_splice rfl (.tmp 8) (.tmp 9) 28 28 rfl 5 Tryd.underlying28 sizeByte _ _ _ _ _ _ rfl rfl (w.heap.size + 1) 0 _ _ (heap_alloc2_new w _ _) (byts k) hcl (fun h => ⟨rfl, (hs.later (Nat.le_refl _) (below_two w _ _)).hpos h⟩) (by simpa using hle.out) (byts_one _) (w.heap.size + 1) _ (Below.refl _ _) (Nat.le_refl _) ?_); intro w2 HG2 hB2; have R1 := Lib.hid (show w2.heap[w.heap.size + 1]? = some (.cells V.toArray 64 (0, 0)) by rw [← HSP.out]; exact HG2.out); have R0 := Lib.hid (show w2.heap[w.heap.size]? = some (.cells (List.replicate 64 (Value.int .u8 0)).toArray 64 (0, 0)) from (hB2.block _ (by omega)).trans (heap_alloc2_old w _ _)); have hb2 := (below_two w _ _).trans (hB2.mono (by omega)); clear HG2 hB2)
      | (with_reducible refine wpList_load_row rfl 64 (.tmp 3) rfl (w.heap.size + 1) rfl 64 V.toArray (0, 0) (.array 64 5) R1.out Tryd.underlying64 rfl hsz.out ?_)
      | ((with_reducible refine wpList_store_row rfl 64 (.tmp 2) (.tmp 11) rfl w.heap.size V.toArray rfl rfl 64 _ R0.out hsz.out hszo.out hone.out ?_); have HG := Lib.hid (setRow_heap w2 w.heap.size _ V.toArray 64 (0, 0) R0.out))
      | (with_reducible refine bodyPost_ret (results_cell_row rfl _ _ w.heap.size 64 V.toArray (0, 0) (.array 64 5) rfl HG.out Tryd.underlying64 rfl hsz.out) rfl ?_))
    exact ⟨by rw [HV.out], below_setRow hb2 (Nat.le_refl _) _⟩
  · have HSP := Lib.hid (show splice (List.replicate 64 (Value.int .u8 0)) 0 (byts (shaL k)) = V by rw [hVq, splice_zeros]; unfold keyL shortL; rw [if_neg h64])
    obtain ⟨X, hX⟩ : ∃ X, X = byts (shaL k) := ⟨_, rfl⟩
    have hXl : X.length = 32 := by rw [hX]; exact store_tag
    have honeX := Lib.hid (all_one (show ∀ v ∈ X, v.oneCell' = true by rw [hX]; exact byts_one _))
    have hszX := Lib.hid (show (Tryd.prog.info? 23).map (·.size) = some X.toArray.size by rw [size_tag, List.size_toArray, hXl])
    have h32 := Lib.hid (show 32 = X.toArray.size by rw [List.size_toArray, hXl])
    have HX := Lib.hid hX
    clear hVq hVl hX hXl
    go_enter Tryd.func38, Tryd.ntmps38
    go_wp2_with (first
      | (go_at_call 46; refine (of_any _ 1 1 [(A, c, k)] _ (hT.later ((below_two w _ _).alloc (by rw [World.size_alloc, World.size_alloc]; omega) _) (Nat.le_refl _)) (parts_two hs _ _) rfl (by rw [flat_one]; exact hm) (by simp)).mono ?_; rintro e w3 ⟨rfl, hb3⟩; rw [flat_one, ← HX.out]; obtain ⟨e0, e1, hbA, hz3⟩ := three_later hb3; have r0 : Row w3 w.heap.size 64 (List.replicate 64 (.int .u8 0)) := e0; have r1 : Row w3 (w.heap.size + 1) 64 (List.replicate 64 (.int .u8 0)) := e1; clear e0 e1 hb3)
      | (with_reducible refine wpList_store_row rfl 23 (.tmp 4) (.tmp 14) rfl w3.heap.size X.toArray rfl rfl 23 _ (heap_alloc_new w3 _) hszX.out (Eq.trans (by kernel_rfl) h32.out) honeX.out ?_; refine Hid.out ?_))
    refine Lib.hid ?_
    generalize hw4 : World.setRow _ _ _ = w4
    obtain ⟨r4, hb4⟩ := row_new_set (xs := X) hw4
    rw [HX.out] at r4
    have r0 := r0.later hb4 r0.lt
    have r1 := r1.later hb4 r1.lt
    have hbB := hbA.trans (hb4.mono hbA.size)
    have hsum : Sl w4 (some ⟨w3.heap.size, 0, none⟩) 32 (byts (shaL k)) := ⟨Rd.row (ys := []) (by rw [List.append_nil]; exact r4), by rw [store_tag]; exact Nat.le_refl _, fun h => by cases h⟩
    have hsum := hsum.later (Nat.le_refl _) ((Below.refl w4.heap.size w4).drew)
    have R1 := Lib.hid (show w4.drew.heap[w.heap.size + 1]? = some (.cells (List.replicate 64 (Value.int .u8 0)).toArray 64 (0, 0)) from r1)
    clear hw4 r4 hb4 hbA r1
    go_wp2_with fail
    refine wp_region_noPanic ?_
    refine wp_region_held_drew (S := fun _ => True) (by kernel_rfl) (trivial) (fun hHeld => ?_)
    refine rtake 0 _ (some 15) _ rfl rfl (by kernel_rfl) (by kernel_rfl) (by kernel_rfl) (fun _ _ _ h => h) (by rfl) hHeld (by intro w hS; go_simp; try with_reducible rfl) ?_
    try (first | (rw [put_some]; dsimp only [List.set]) | rw [put_none])
    refine rtake 1 _ (some 16) _ rfl rfl (by kernel_rfl) (by kernel_rfl) (by kernel_rfl) (fun _ _ _ h => h) (by rfl) hHeld (by intro w hS; go_simp; try with_reducible rfl) ?_
    try (first | (rw [put_some]; dsimp only [List.set]) | rw [put_none])
    refine wpAnyH_ready (rs := [2]) (by kernel_rfl) (by simp) (AllReadyH.cons (o := _) rfl (fun K hK => ?_) AllReadyH.nil)
    refine step_copy_row (some 17) rfl (by rfl) (.tmp 15) (.tmp 16) 28 28 rfl 5 Tryd.underlying28 sizeByte (w.heap.size + 1) 0 64 64 _ 32 32 rfl rfl 64 _ (show Row _ _ _ _ from R1.out) (byts (shaL k)) 32 store_tag (by decide) hsum.rd.at_add (by rw [store_tag, List.length_replicate]; decide) (byts_one _) ?_; intro w6 hr6 hg6
    refine hK.out _ _ (trivial) (fun _ => ?_)
    clear hK K
    try (first | (rw [put_some]; dsimp only [List.set]) | rw [put_none])
    refine wpAnyH_done (by kernel_rfl) ?_ _
    refine NoPanic.normal ?_
    rw [HSP.out] at hr6
    have R0 := Lib.hid (show w6.heap[w.heap.size]? = some (.cells (List.replicate 64 (Value.int .u8 0)).toArray 64 (0, 0)) from r0.drew.grown hg6 (by omega))
    have R1 := Lib.hid (show w6.heap[w.heap.size + 1]? = some (.cells V.toArray 64 (0, 0)) from hr6)
    have hb6 := hbB.drew.grown hg6 hbB.size (fun k h => by cases h; omega)
    clear hr6 hg6 hbB r0 hsum hHeld
    go_wp2_with (first
      | (with_reducible refine wpList_load_row rfl 64 (.tmp 3) rfl (w.heap.size + 1) rfl 64 V.toArray (0, 0) (.array 64 5) R1.out Tryd.underlying64 rfl hsz.out ?_)
      | ((with_reducible refine wpList_store_row rfl 64 (.tmp 2) (.tmp 18) rfl w.heap.size V.toArray rfl rfl 64 _ R0.out hsz.out hszo.out hone.out ?_); have HG := Lib.hid (setRow_heap w6 w.heap.size _ V.toArray 64 (0, 0) R0.out))
      | (with_reducible refine bodyPost_ret (results_cell_row rfl _ _ w.heap.size 64 V.toArray (0, 0) (.array 64 5) rfl HG.out Tryd.underlying64 rfl hsz.out) rfl ?_))
    exact ⟨by rw [HV.out], below_setRow hb6 (Nat.le_refl _) _⟩
set_option maxRecDepth 20000 in
set_option maxHeartbeats 1000000 in
theorem begun_any (k : List UInt8) (hk : k.length = 64) (x : UInt8) (w : World) (hT : Tabs w) :
    Calls Tryd.prog 39 #[.agg (byts k).toArray, .int .u8 (x.toNat : Int)] w (GaveDig (xorL x k) w) := by
  go_enter Tryd.func39, Tryd.ntmps39
  go_wp2
  go_loopw [7] (fun i wr => ∃ j : Nat, j ≤ 64 ∧ i = .int .i64 j ∧ Row wr w.heap.size 64 (byts (xorL x (k.take j) ++ k.drop j)) ∧ Below w.heap.size w wr) (fun i _ => 64 - (intOf i).toNat)
  case atStart => exact ⟨0, by omega, rfl, by simpa [xorL] using Row.new w 64 (byts k), (Below.refl _ w).alloc (Nat.le_refl _) _⟩
  case round =>
    obtain ⟨j, hj, rfl, hrow, hb⟩ := hrel
    by_cases hlt : j < 64
    · have hl : (xorL x (k.take j) ++ k.drop j).length = 64 := by rw [List.length_append, length_xorL, List.length_take, List.length_drop]; omega
      have HS := Lib.hid (xor_succ x k j (by omega))
      have hc : wr.cell? ⟨w.heap.size, j, none⟩ = some (.int .u8 ((k.getD j 0).toNat : Int)) := by
        rw [hrow.cell, get_byts _ _ (by omega), getD_split x k j (by omega)]
      have hfr := hrow.free j
      have hx := byte_xor (k.getD j 0) x
      generalize k.getD j 0 = y at *
      go_wp2
      go_roundw
      case rel =>
        refine ⟨j + 1, by omega, by go_num, ?_, hb.setCell (Nat.le_refl _) _⟩
        rw [← HS.out, ← byts_set, UInt8.toNat_xor]
        exact hrow.set j _
      case measure => simp [intOf]; omega
    · have e64 : j = 64 := by omega
      have hl : (xorL x k).length = 64 := by rw [length_xorL, hk]
      have el : xorL x (k.take j) ++ k.drop j = xorL x k := by rw [List.take_of_length_le (by omega), List.drop_of_length_le (by omega), List.append_nil]
      rw [el] at hrow
      have HL := Lib.hid hl
      generalize xorL x k = m at *
      have hTr := hT.later hb (Nat.le_refl _)
      clear hT hk el hl
      go_wp2_with (first
        | (go_at_call 47; refine (new_any _ hTr).mono ?_; rintro e w1 ⟨g, rfl, hg1, hd1, hb1⟩; have hbA := hb.trans (hb1.mono hb.size); have r1 := hrow.later hb1 hrow.lt; have hC1 := hTr.cu.later hb1 (Nat.le_refl _); have hne : w.heap.size < g := Nat.lt_of_lt_of_le hrow.lt hg1; clear hb1 hb hg1)
        | (go_at_call 40; refine (write_at g 64 [] m (some ⟨w.heap.size, 0, none⟩) 64 _ hC1 hd1 ⟨Rd.row (ys := []) (by rw [List.append_nil]; exact r1), by rw [length_byts, HL.out]; exact Nat.le_refl _, fun h => by cases h⟩ (fun _ a ha => by cases ha; show w.heap.size ≠ g; omega) HL.out.symm (by rw [HL.out]; decide)).mono ?_; rintro e w3 ⟨rfl, hd3, hg3⟩))
      go_ret
      exact ⟨g, rfl, by omega, hd3, hbA.grown hg3 hbA.size (fun k h => by cases h; omega)⟩
end Go.Proofs.YtlocgfekgbdlmaaDoor

/- LAYER 2: the document's list of the numbers of the primes' roots. -/
namespace Go.Proofs.YtlocgfekgbdlmaaDoor
open Go.RowKit

def tabs32 (xs : List Int) : List Value := xs.map (Value.int .u32)
set_option maxRecDepth 100000 in
theorem rprimes_any (w : World) :
    Calls Tryd.prog 44 #[] w fun e w' => e = .returned (.slice (some ⟨w.heap.size, 0, none⟩) 64 64) ∧ Row w' w.heap.size 53 (tabs32 cubeT) ∧ Below w.heap.size w w' := by
  go_enter Tryd.func44, Tryd.ntmps44
  go_wp2
  go_ret
  refine ⟨rfl, heap_alloc_new w _, (Below.refl _ _).alloc (Nat.le_refl _) _⟩
theorem get_tabs32 (xs : List Int) (i : Nat) (h : i < xs.length) : (tabs32 xs)[i]? = some (.int .u32 (xs.getD i 0)) := by
  unfold tabs32; simp [h]
theorem length_cubeT : cubeT.length = 64 := rfl
theorem Row.cube {w : World} {g : Nat} {t : TypeId} (h : Row w g t (tabs32 cubeT)) (i : Nat) (hi : i < 64) : w.cell? ⟨g, i, none⟩ = some (.int .u32 (cubeT.getD i 0)) := by
  rw [h.cell, get_tabs32 _ _ (by rw [length_cubeT]; exact hi)]
end Go.Proofs.YtlocgfekgbdlmaaDoor

/- LAYER 2: the document's schedule. -/
namespace Go.Proofs.YtlocgfekgbdlmaaDoor
open Go.RowKit

theorem turn_two (x : BitVec 32) (n : Nat) (h : n < 32) : x >>> n ||| x <<< (32 - n) = turn x (n : Int) := by
  unfold turn
  rw [BitVec.rotateRight_def, show ((n : Int) % 32).toNat = n by omega, Nat.mod_eq_of_lt h]
theorem rturn2_any (x : BitVec 32) (n : Int) (w : World) (h0 : 0 ≤ n) (h1 : n < 32) :
    Calls Tryd.prog 45 #[.int .u32 (u x), .int .u64 n] w fun e w' => e = .returned (.int .u32 (u (turn x n))) ∧ w = w' := by
  obtain ⟨n, rfl⟩ := Int.eq_ofNat_of_zero_le h0
  have hn : IntKind.u64.wrap (32 - (n : Int)) = ((32 - n : Nat) : Int) := by rw [IntKind.wrap_u64]; omega
  have H := Lib.hid (turn_two x n (by omega))
  go_enter Tryd.func45, Tryd.ntmps45
  go_wp2
  go_ret
  refine ⟨?_, rfl⟩
  rw [← H.out]
  rfl
/-- The call gave a slice of its own that holds just these words; what was there before is as it was. -/
def GaveWords (xs : List (BitVec 32)) (w : World) (e : Ending) (w' : World) : Prop :=
  ∃ v, e = .returned v ∧ w'.ownsRow w.heap.size 53 1 v xs.length (words xs) ∧ Below w.heap.size w w'
theorem infoWord : (Tryd.prog.info? 53).map (fun i => (i.zero, i.size, i.bytes)) = some (some (.int .u32 0), 1, 4) := by kernel_rfl
theorem rget_at (A : Option Addr) (n c : Nat) (l : List UInt8) (w : World) (hl : Sl w A c (byts l)) (hn : n = l.length) :
    Calls Tryd.prog 50 #[.slice A n c] w fun e w' => e = .returned (.int .u32 (getV l)) ∧ w = w' := by
  subst hn; exact rget_any A c l w hl
theorem own_cell {w : World} {base t g n cap : Nat} {xs : List (BitVec 32)} (h : w.ownsRow base t 1 (.slice (some ⟨g, 0, none⟩) n cap) n (words xs)) (i : Nat) (hi : i < xs.length) :
    w.cell? ⟨g, i, none⟩ = some (.int .u32 (u (xs.getD i 0#32))) := by
  obtain ⟨ys, hr⟩ := Row.of_own h
  rw [hr.cell, List.getElem?_append_left (by rw [length_words]; exact hi), get_words _ _ hi]
@[go_sem] theorem u_quo10 (x : BitVec 32) : IntKind.u32.wrap ((u x).tdiv 1024) = u (x >>> 10) := by
  rw [IntWalk.u32_quo _ _ ⟨(u_bd x).1, by have := u_bd x; omega, by decide⟩, u_shr10]
@[go_sem] theorem u_quo3 (x : BitVec 32) : IntKind.u32.wrap ((u x).tdiv 8) = u (x >>> 3) := by
  rw [IntWalk.u32_quo _ _ ⟨(u_bd x).1, by have := u_bd x; omega, by decide⟩, u_shr3]
theorem small_one (x : BitVec 32) : turn x 17 ^^^ turn x 19 ^^^ x >>> 10 = small 1 x := by unfold small; rw [if_neg (by decide), if_pos rfl]
theorem small_nil (x : BitVec 32) : turn x 7 ^^^ turn x 18 ^^^ x >>> 3 = small 0 x := by unfold small; rw [if_pos rfl]
set_option maxHeartbeats 2000000 in
theorem rschedule_any (b o c : Nat) (l : List UInt8) (hl : l.length = 64) (w : World) (hsl : Sl w (some ⟨b, o, none⟩) c (byts l)) :
    Calls Tryd.prog 43 #[.slice (some ⟨b, o, none⟩) 64 c] w (GaveWords (sched l 64) w) := by
  obtain ⟨i0, hi, hz0, hz1, hz2⟩ := info_parts infoWord
  have hroom : 64 ≤ c := by have := hsl.room; rw [length_byts, hl] at this; exact this
  have hown0 : (w.alloc (.cells #[] 53)).ownsRow w.heap.size 53 1 (.slice (some ⟨w.heap.size, 0, none⟩) 0 0) 0 (words (sched l 0)) := World.ownsRow_lit w #[] 0 (Nat.le_refl _) (by unfold maxLen; omega) rfl
  have hbel0 : Below w.heap.size w (w.alloc (.cells #[] 53)) := (Below.refl _ _).alloc (Nat.le_refl _) _
  go_enter Tryd.func43, Tryd.ntmps43
  go_wp2_with fail
  go_loopw [3, 4] (fun v i wr => ∃ k : Nat, k ≤ 16 ∧ i = .int .i64 k ∧ wr.ownsRow w.heap.size 53 1 v k (words (sched l k)) ∧ Below w.heap.size w wr) (fun _ i _ => 16 - (intOf i).toNat)
  case atStart => exact ⟨0, by omega, rfl, hown0, hbel0⟩
  case round =>
    clear hown0 hbel0
    obtain ⟨k, hk, rfl, hown, hb⟩ := hrel
    by_cases hlt : k < 16
    · have hI1 : (0 : Int) ≤ 4 * (k : Int) := by omega
      have hI2 : 4 * (k : Int) ≤ 64 := by omega
      have hI4 : 4 * (k : Int) ≤ (c : Int) := by omega
      have hI3 : ¬ (c = 4 * k) := by omega
      have hI5 : ((4 * (k : Int)).toNat) = 4 * k := by omega
      have hsk : Sl wr (some ⟨b, o + 4 * k, none⟩) (c - 4 * k) (byts (l.drop (4 * k))) := by
        have h1 := (hsl.later (Nat.le_refl _) hb).cut (k := 4 * k) (by rw [length_byts]; omega)
        rw [show (byts l).drop (4 * k) = byts (l.drop (4 * k)) from by unfold byts; rw [List.map_drop]] at h1
        exact h1
      have hln := Lib.hid (show 64 - 4 * k = (l.drop (4 * k)).length by rw [List.length_drop, hl])
      have hlo := Lib.hid (next_low l k hlt)
      have hd1 : k + 1 ≤ maxLen := by unfold maxLen; omega
      have hd2 : (k + 1) * 4 ≤ 140737488355328 := by omega
      have hbs := hb.size
      have hbe := hb.alloc hbs (.cells #[Value.int .u32 (u (nextW l (sched l k)))] 53)
      have howna := hown.alloc (.cells #[Value.int .u32 (u (nextW l (sched l k)))] 53)
      have hlt' := fun j hj => (hown.lt j hj).1
      clear hown hb
      go_wp2_with (first
        | (go_at_call 50; refine (rget_at _ _ _ (l.drop (4 * k)) _ hsk hln.out).mono ?_; rintro e w' ⟨rfl, rfl⟩; rw [← u_getW, ← hlo.out])
        | (at_builtin; refine wpList_append_own _ rfl (.tmp 13) (.tmp 19) 60 rfl w.heap.size 53 i0 _ 1 4 Tryd.underlying60 hi hz0 hz1 hz2 rfl (by omega) _ k (words (sched l k)) rfl howna ⟨wr.heap.size, 0, none⟩ 1 1 (words [nextW l (sched l k)]) rfl rfl (cells_new _ _ _) (words_one _) hd1 hd2 (by rw [World.size_alloc]; omega) ?_; intro v3 w3 hown3 hg3 _; have hb3 : Below w.heap.size w w3 := hbe.grown hg3 (by rw [World.size_alloc]; omega) hlt'))
      go_roundw
      case rel =>
        refine ⟨k + 1, by omega, by go_num, ?_, hb3⟩
        rw [sched, words_append]; exact hown3
      case measure => simp [intOf]; omega
    · have e16 : k = 16 := by omega
      rw [e16] at hown
      clear e16
      go_wp2_with fail
      go_loopw [3, 5] (fun v i wr => ∃ j : Nat, j ≤ 48 ∧ i = .int .i64 ((j : Int) + 16) ∧ wr.ownsRow w.heap.size 53 1 v (j + 16) (words (sched l (j + 16))) ∧ Below w.heap.size w wr) (fun _ i _ => 64 - (intOf i).toNat)
      case atStart => exact ⟨0, by omega, rfl, hown, hb⟩
      case round =>
        clear hown hb
        obtain ⟨j, hj, rfl, hown, hb⟩ := hrel
        by_cases hlt : j < 48
        · obtain ⟨g, cap, rfl, _, hgl⟩ := hown.form (by omega)
          go_wp2_with fail
          have hk6 := length_sched l (j + 16)
          have c2 := own_cell hown (j + 14) (by omega)
          have c7 := own_cell hown (j + 9) (by omega)
          have c15 := own_cell hown (j + 1) (by omega)
          have c16 := own_cell hown j (by omega)
          have hnx := next_high l (j + 16) (by omega)
          rw [show j + 16 - 2 = j + 14 by omega, show j + 16 - 7 = j + 9 by omega, show j + 16 - 15 = j + 1 by omega, show j + 16 - 16 = j by omega] at hnx
          generalize (sched l (j + 16)).getD (j + 14) 0#32 = x2 at *
          generalize (sched l (j + 16)).getD (j + 9) 0#32 = x7 at *
          generalize (sched l (j + 16)).getD (j + 1) 0#32 = x15 at *
          generalize (sched l (j + 16)).getD j 0#32 = x16 at *
          have HNX := Lib.hid hnx
          have HK6 := Lib.hid hk6
          clear hnx hk6
          have w2 : IntKind.i64.wrap ((j : Int) + 16 - 2) = (j : Int) + 14 := by rw [IntKind.wrap_i64]; omega
          have w7 : IntKind.i64.wrap ((j : Int) + 16 - 7) = (j : Int) + 9 := by rw [IntKind.wrap_i64]; omega
          have w15 : IntKind.i64.wrap ((j : Int) + 16 - 15) = (j : Int) + 1 := by rw [IntKind.wrap_i64]; omega
          have n14 : (0 : Int) ≤ (j : Int) + 14 := by omega
          have m14 : (j : Int) + 14 < (j : Int) + 16 := by omega
          have t14 : ((j : Int) + 14).toNat = j + 14 := by omega
          have n9 : (0 : Int) ≤ (j : Int) + 9 := by omega
          have m9 : (j : Int) + 9 < (j : Int) + 16 := by omega
          have t9 : ((j : Int) + 9).toNat = j + 9 := by omega
          have n1 : (0 : Int) ≤ (j : Int) + 1 := by omega
          have m1 : (j : Int) + 1 < (j : Int) + 16 := by omega
          have t1 : ((j : Int) + 1).toNat = j + 1 := by omega
          have m0 : (j : Int) < (j : Int) + 16 := by omega
          have w0 : IntKind.i64.wrap (j : Int) = (j : Int) := by rw [IntKind.wrap_i64]; omega
          refine wp_region_noPanic ?_
          refine wp_region_held_drew (S := fun w' => w' = wr.drew) (by kernel_rfl) (rfl) (fun hHeld => ?_)
          refine rtake 0 _ (some 25) _ rfl rfl (by kernel_rfl) (by kernel_rfl) (by kernel_rfl) (fun _ _ _ h => h) (by rfl) rfl (by intro w hS; subst hS; go_simp; try with_reducible rfl) ?_
          try (rw [put_some]; dsimp only [List.set])
          refine rtake 1 _ (some 26) _ rfl rfl (by kernel_rfl) (by kernel_rfl) (by kernel_rfl) (fun _ _ _ h => h) (by rfl) rfl (by intro w hS; subst hS; go_simp; try with_reducible rfl) ?_
          try (rw [put_some]; dsimp only [List.set])
          refine rtake 6 _ (some 31) _ rfl rfl (by kernel_rfl) (by kernel_rfl) (by kernel_rfl) (fun _ _ _ h => h) (by rfl) rfl (by intro w hS; subst hS; go_simp; try with_reducible rfl) ?_
          try (rw [put_some]; dsimp only [List.set])
          refine rtake 7 _ (some 32) _ rfl rfl (by kernel_rfl) (by kernel_rfl) (by kernel_rfl) (fun _ _ _ h => h) (by rfl) rfl (by intro w hS; subst hS; go_simp; try with_reducible rfl) ?_
          try (rw [put_some]; dsimp only [List.set])
          refine rtake 13 _ (some 38) _ rfl rfl (by kernel_rfl) (by kernel_rfl) (by kernel_rfl) (fun _ _ _ h => h) (by rfl) rfl (by intro w hS; subst hS; go_simp; try with_reducible rfl) ?_
          try (rw [put_some]; dsimp only [List.set])
          refine rtake 14 _ (some 39) _ rfl rfl (by kernel_rfl) (by kernel_rfl) (by kernel_rfl) (fun _ _ _ h => h) (by rfl) rfl (by intro w hS; subst hS; go_simp; try with_reducible rfl) ?_
          try (rw [put_some]; dsimp only [List.set])
          refine rtake 2 _ (some 27) _ rfl rfl (by kernel_rfl) (by kernel_rfl) (by kernel_rfl) (fun _ _ _ h => h) (by rfl) rfl (by intro w hS; subst hS; go_simp; try with_reducible rfl) ?_
          try (rw [put_some]; dsimp only [List.set])
          refine rtake 8 _ (some 33) _ rfl rfl (by kernel_rfl) (by kernel_rfl) (by kernel_rfl) (fun _ _ _ h => h) (by rfl) rfl (by intro w hS; subst hS; go_simp; try with_reducible rfl) ?_
          try (rw [put_some]; dsimp only [List.set])
          refine rtake 15 _ (some 40) _ rfl rfl (by kernel_rfl) (by kernel_rfl) (by kernel_rfl) (fun _ _ _ h => h) (by rfl) rfl (by intro w hS; subst hS; go_simp; try with_reducible rfl) ?_
          try (rw [put_some]; dsimp only [List.set])
          refine rtake 3 _ (some 28) _ rfl rfl (by kernel_rfl) (by kernel_rfl) (by kernel_rfl) (fun _ _ _ h => h) (by rfl) rfl (by intro w hS; subst hS; go_simp; try with_reducible rfl) ?_
          try (rw [put_some]; dsimp only [List.set])
          refine rtake 9 _ (some 34) _ rfl rfl (by kernel_rfl) (by kernel_rfl) (by kernel_rfl) (fun _ _ _ h => h) (by rfl) rfl (by intro w hS; subst hS; go_simp; try with_reducible rfl) ?_
          try (rw [put_some]; dsimp only [List.set])
          refine rtake 16 _ (some 41) _ rfl rfl (by kernel_rfl) (by kernel_rfl) (by kernel_rfl) (fun _ _ _ h => h) (by rfl) rfl (by intro w hS; subst hS; go_simp; try with_reducible rfl) ?_
          try (rw [put_some]; dsimp only [List.set])
          refine rtake 4 _ (some 29) _ rfl rfl (by kernel_rfl) (by kernel_rfl) (by kernel_rfl) (fun _ _ _ h => h) (by rfl) rfl (by intro w hS; subst hS; go_simp; try with_reducible rfl) ?_
          try (rw [put_some]; dsimp only [List.set])
          refine rtake 10 _ (some 35) _ rfl rfl (by kernel_rfl) (by kernel_rfl) (by kernel_rfl) (fun _ _ _ h => h) (by rfl) rfl (by intro w hS; subst hS; go_simp; try with_reducible rfl) ?_
          try (rw [put_some]; dsimp only [List.set])
          refine rtake 17 _ (some 42) _ rfl rfl (by kernel_rfl) (by kernel_rfl) (by kernel_rfl) (fun _ _ _ h => h) (by rfl) rfl (by intro w hS; subst hS; go_simp; try with_reducible rfl) ?_
          try (rw [put_some]; dsimp only [List.set])
          refine rtake 18 _ (some 43) _ rfl rfl (by kernel_rfl) (by kernel_rfl) (by kernel_rfl) (fun _ _ _ h => h) (by rfl) rfl (by intro w hS; subst hS; go_simp; try with_reducible rfl) ?_
          try (rw [put_some]; dsimp only [List.set])
          refine wpAnyH_ready (rs := [5]) (by kernel_rfl) (by simp) (AllReadyH.cons (o := _) rfl (fun K hK => ?_) AllReadyH.nil)
          go_simp
          refine (rturn2_any _ 17 _ (by decide) (by decide)).mono ?_; rintro e w' ⟨rfl, rfl⟩
          try go_wp2_with fail
          refine hK.out _ _ rfl (fun _ => ?_)
          clear hK K
          try (rw [put_some]; dsimp only [List.set])
          refine wpAnyH_ready (rs := [11]) (by kernel_rfl) (by simp) (AllReadyH.cons (o := _) rfl (fun K hK => ?_) AllReadyH.nil)
          go_simp
          refine (rturn2_any _ 19 _ (by decide) (by decide)).mono ?_; rintro e w' ⟨rfl, rfl⟩
          try go_wp2_with fail
          refine hK.out _ _ rfl (fun _ => ?_)
          clear hK K
          try (rw [put_some]; dsimp only [List.set])
          refine rtake 12 _ (some 37) _ rfl rfl (by kernel_rfl) (by kernel_rfl) (by kernel_rfl) (fun _ _ _ h => h) (by rfl) rfl (by intro w hS; subst hS; go_simp; try with_reducible rfl) ?_
          try (rw [put_some]; dsimp only [List.set])
          refine rtake 19 _ (some 44) _ rfl rfl (by kernel_rfl) (by kernel_rfl) (by kernel_rfl) (fun _ _ _ h => h) (by rfl) rfl (by intro w hS; subst hS; go_simp; try with_reducible rfl) ?_
          try (rw [put_some]; dsimp only [List.set])
          refine rtake 20 _ (some 6) _ rfl rfl (by kernel_rfl) (by kernel_rfl) (by kernel_rfl) (fun _ _ _ h => h) (by rfl) rfl (by intro w hS; subst hS; go_simp; try with_reducible rfl) ?_
          try (rw [put_some]; dsimp only [List.set])
          refine wpAnyH_done (by kernel_rfl) ?_ _
          refine NoPanic.normal ?_
          rw [small_one]
          go_wp2_with fail
          refine wp_region_noPanic ?_
          refine wp_region_held_drew (S := fun w' => w' = wr.drew.drew) (by kernel_rfl) (rfl) (fun hHeld => ?_)
          refine rtake 0 _ (some 45) _ rfl rfl (by kernel_rfl) (by kernel_rfl) (by kernel_rfl) (fun _ _ _ h => h) (by rfl) rfl (by intro w hS; subst hS; go_simp; try with_reducible rfl) ?_
          try (rw [put_some]; dsimp only [List.set])
          refine rtake 1 _ (some 46) _ rfl rfl (by kernel_rfl) (by kernel_rfl) (by kernel_rfl) (fun _ _ _ h => h) (by rfl) rfl (by intro w hS; subst hS; go_simp; try with_reducible rfl) ?_
          try (rw [put_some]; dsimp only [List.set])
          refine rtake 6 _ (some 51) _ rfl rfl (by kernel_rfl) (by kernel_rfl) (by kernel_rfl) (fun _ _ _ h => h) (by rfl) rfl (by intro w hS; subst hS; go_simp; try with_reducible rfl) ?_
          try (rw [put_some]; dsimp only [List.set])
          refine rtake 7 _ (some 52) _ rfl rfl (by kernel_rfl) (by kernel_rfl) (by kernel_rfl) (fun _ _ _ h => h) (by rfl) rfl (by intro w hS; subst hS; go_simp; try with_reducible rfl) ?_
          try (rw [put_some]; dsimp only [List.set])
          refine rtake 13 _ (some 58) _ rfl rfl (by kernel_rfl) (by kernel_rfl) (by kernel_rfl) (fun _ _ _ h => h) (by rfl) rfl (by intro w hS; subst hS; go_simp; try with_reducible rfl) ?_
          try (rw [put_some]; dsimp only [List.set])
          refine rtake 14 _ (some 59) _ rfl rfl (by kernel_rfl) (by kernel_rfl) (by kernel_rfl) (fun _ _ _ h => h) (by rfl) rfl (by intro w hS; subst hS; go_simp; try with_reducible rfl) ?_
          try (rw [put_some]; dsimp only [List.set])
          refine rtake 2 _ (some 47) _ rfl rfl (by kernel_rfl) (by kernel_rfl) (by kernel_rfl) (fun _ _ _ h => h) (by rfl) rfl (by intro w hS; subst hS; go_simp; try with_reducible rfl) ?_
          try (rw [put_some]; dsimp only [List.set])
          refine rtake 8 _ (some 53) _ rfl rfl (by kernel_rfl) (by kernel_rfl) (by kernel_rfl) (fun _ _ _ h => h) (by rfl) rfl (by intro w hS; subst hS; go_simp; try with_reducible rfl) ?_
          try (rw [put_some]; dsimp only [List.set])
          refine rtake 15 _ (some 60) _ rfl rfl (by kernel_rfl) (by kernel_rfl) (by kernel_rfl) (fun _ _ _ h => h) (by rfl) rfl (by intro w hS; subst hS; go_simp; try with_reducible rfl) ?_
          try (rw [put_some]; dsimp only [List.set])
          refine rtake 3 _ (some 48) _ rfl rfl (by kernel_rfl) (by kernel_rfl) (by kernel_rfl) (fun _ _ _ h => h) (by rfl) rfl (by intro w hS; subst hS; go_simp; try with_reducible rfl) ?_
          try (rw [put_some]; dsimp only [List.set])
          refine rtake 9 _ (some 54) _ rfl rfl (by kernel_rfl) (by kernel_rfl) (by kernel_rfl) (fun _ _ _ h => h) (by rfl) rfl (by intro w hS; subst hS; go_simp; try with_reducible rfl) ?_
          try (rw [put_some]; dsimp only [List.set])
          refine rtake 16 _ (some 61) _ rfl rfl (by kernel_rfl) (by kernel_rfl) (by kernel_rfl) (fun _ _ _ h => h) (by rfl) rfl (by intro w hS; subst hS; go_simp; try with_reducible rfl) ?_
          try (rw [put_some]; dsimp only [List.set])
          refine rtake 4 _ (some 49) _ rfl rfl (by kernel_rfl) (by kernel_rfl) (by kernel_rfl) (fun _ _ _ h => h) (by rfl) rfl (by intro w hS; subst hS; go_simp; try with_reducible rfl) ?_
          try (rw [put_some]; dsimp only [List.set])
          refine rtake 10 _ (some 55) _ rfl rfl (by kernel_rfl) (by kernel_rfl) (by kernel_rfl) (fun _ _ _ h => h) (by rfl) rfl (by intro w hS; subst hS; go_simp; try with_reducible rfl) ?_
          try (rw [put_some]; dsimp only [List.set])
          refine rtake 17 _ (some 62) _ rfl rfl (by kernel_rfl) (by kernel_rfl) (by kernel_rfl) (fun _ _ _ h => h) (by rfl) rfl (by intro w hS; subst hS; go_simp; try with_reducible rfl) ?_
          try (rw [put_some]; dsimp only [List.set])
          refine rtake 18 _ (some 63) _ rfl rfl (by kernel_rfl) (by kernel_rfl) (by kernel_rfl) (fun _ _ _ h => h) (by rfl) rfl (by intro w hS; subst hS; go_simp; try with_reducible rfl) ?_
          try (rw [put_some]; dsimp only [List.set])
          refine wpAnyH_ready (rs := [5]) (by kernel_rfl) (by simp) (AllReadyH.cons (o := _) rfl (fun K hK => ?_) AllReadyH.nil)
          go_simp
          refine (rturn2_any _ 7 _ (by decide) (by decide)).mono ?_; rintro e w' ⟨rfl, rfl⟩
          try go_wp2_with fail
          refine hK.out _ _ rfl (fun _ => ?_)
          clear hK K
          try (rw [put_some]; dsimp only [List.set])
          refine wpAnyH_ready (rs := [11]) (by kernel_rfl) (by simp) (AllReadyH.cons (o := _) rfl (fun K hK => ?_) AllReadyH.nil)
          go_simp
          refine (rturn2_any _ 18 _ (by decide) (by decide)).mono ?_; rintro e w' ⟨rfl, rfl⟩
          try go_wp2_with fail
          refine hK.out _ _ rfl (fun _ => ?_)
          clear hK K
          try (rw [put_some]; dsimp only [List.set])
          refine rtake 12 _ (some 57) _ rfl rfl (by kernel_rfl) (by kernel_rfl) (by kernel_rfl) (fun _ _ _ h => h) (by rfl) rfl (by intro w hS; subst hS; go_simp; try with_reducible rfl) ?_
          try (rw [put_some]; dsimp only [List.set])
          refine rtake 19 _ (some 64) _ rfl rfl (by kernel_rfl) (by kernel_rfl) (by kernel_rfl) (fun _ _ _ h => h) (by rfl) rfl (by intro w hS; subst hS; go_simp; try with_reducible rfl) ?_
          try (rw [put_some]; dsimp only [List.set])
          refine rtake 20 _ (some 7) _ rfl rfl (by kernel_rfl) (by kernel_rfl) (by kernel_rfl) (fun _ _ _ h => h) (by rfl) rfl (by intro w hS; subst hS; go_simp; try with_reducible rfl) ?_
          try (rw [put_some]; dsimp only [List.set])
          refine wpAnyH_done (by kernel_rfl) ?_ _
          refine NoPanic.normal ?_
          rw [small_nil]
          go_wp2_with fail
          have hownd : wr.drew.drew.drew.ownsRow w.heap.size 53 1 (.slice (some ⟨g, 0, none⟩) (j + 16) cap) (j + 16) (words (sched l (j + 16))) := hown
          have hbd : Below w.heap.size w wr.drew.drew.drew := hb.drew.drew.drew
          have hd1 : j + 16 + 1 ≤ maxLen := by unfold maxLen; omega
          have hd2 : (j + 16 + 1) * 4 ≤ 140737488355328 := by omega
          have hd3 : w.heap.size ≤ (wr.drew.drew.drew.alloc (.cells #[Value.int .u32 (u (small 1 x2 + x7 + small 0 x15 + x16))] 53)).heap.size := by rw [World.size_alloc]; have := hbd.size; omega
          refine wp_region_noPanic ?_
          refine wp_region_held_drew (S := fun w' => w'.cell? ⟨g, j + 9, none⟩ = some (.int .u32 (u x7)) ∧ w'.cell? ⟨g, j, none⟩ = some (.int .u32 (u x16))) (by kernel_rfl) (⟨c7, c16⟩) (fun hHeld => ?_)
          refine rtake 0 _ (some 65) _ rfl rfl (by kernel_rfl) (by kernel_rfl) (by kernel_rfl) (fun _ _ _ h => h) (by rfl) hHeld (by intro w hS; obtain ⟨s7, s16⟩ := hS; go_simp; try with_reducible rfl) ?_
          try (rw [put_some]; dsimp only [List.set])
          refine rtake 1 _ (some 66) _ rfl rfl (by kernel_rfl) (by kernel_rfl) (by kernel_rfl) (fun _ _ _ h => h) (by rfl) hHeld (by intro w hS; obtain ⟨s7, s16⟩ := hS; go_simp; try with_reducible rfl) ?_
          try (rw [put_some]; dsimp only [List.set])
          refine rtake 2 _ (some 67) _ rfl rfl (by kernel_rfl) (by kernel_rfl) (by kernel_rfl) (fun _ _ _ h => h) (by rfl) hHeld (by intro w hS; obtain ⟨s7, s16⟩ := hS; go_simp; try with_reducible rfl) ?_
          try (rw [put_some]; dsimp only [List.set])
          refine rtake 3 _ (some 68) _ rfl rfl (by kernel_rfl) (by kernel_rfl) (by kernel_rfl) (fun _ _ _ h => h) (by rfl) hHeld (by intro w hS; obtain ⟨s7, s16⟩ := hS; go_simp; try with_reducible rfl) ?_
          try (rw [put_some]; dsimp only [List.set])
          refine rtake 8 _ (some 73) _ rfl rfl (by kernel_rfl) (by kernel_rfl) (by kernel_rfl) (fun _ _ _ h => h) (by rfl) hHeld (by intro w hS; obtain ⟨s7, s16⟩ := hS; go_simp; try with_reducible rfl) ?_
          try (rw [put_some]; dsimp only [List.set])
          refine rtake 10 _ (some 75) _ rfl rfl (by kernel_rfl) (by kernel_rfl) (by kernel_rfl) (fun _ _ _ h => h) (by rfl) hHeld (by intro w hS; obtain ⟨s7, s16⟩ := hS; go_simp; try with_reducible rfl) ?_
          try (rw [put_some]; dsimp only [List.set])
          refine rtake 11 _ (some 76) _ rfl rfl (by kernel_rfl) (by kernel_rfl) (by kernel_rfl) (fun _ _ _ h => h) (by rfl) hHeld (by intro w hS; obtain ⟨s7, s16⟩ := hS; go_simp; try with_reducible rfl) ?_
          try (rw [put_some]; dsimp only [List.set])
          refine rtake 4 _ (some 69) _ rfl rfl (by kernel_rfl) (by kernel_rfl) (by kernel_rfl) (fun _ _ _ h => h) (by rfl) hHeld (by intro w hS; obtain ⟨s7, s16⟩ := hS; go_simp; try with_reducible rfl) ?_
          try (rw [put_some]; dsimp only [List.set])
          refine rtake 12 _ (some 77) _ rfl rfl (by kernel_rfl) (by kernel_rfl) (by kernel_rfl) (fun _ _ _ h => h) (by rfl) hHeld (by intro w hS; obtain ⟨s7, s16⟩ := hS; go_simp; try with_reducible rfl) ?_
          try (rw [put_some]; dsimp only [List.set])
          refine rtake 5 _ (some 70) _ rfl rfl (by kernel_rfl) (by kernel_rfl) (by kernel_rfl) (fun _ _ _ h => h) (by rfl) hHeld (by intro w hS; obtain ⟨s7, s16⟩ := hS; go_simp; try with_reducible rfl) ?_
          try (rw [put_some]; dsimp only [List.set])
          refine rtake 13 _ (some 78) _ rfl rfl (by kernel_rfl) (by kernel_rfl) (by kernel_rfl) (fun _ _ _ h => h) (by rfl) hHeld (by intro w hS; obtain ⟨s7, s16⟩ := hS; go_simp; try with_reducible rfl) ?_
          try (rw [put_some]; dsimp only [List.set])
          refine rtake 6 _ (some 71) _ rfl rfl (by kernel_rfl) (by kernel_rfl) (by kernel_rfl) (fun _ _ _ h => h) (by rfl) hHeld (by intro w hS; obtain ⟨s7, s16⟩ := hS; go_simp; try with_reducible rfl) ?_
          try (rw [put_some]; dsimp only [List.set])
          refine rtake 14 _ (some 79) _ rfl rfl (by kernel_rfl) (by kernel_rfl) (by kernel_rfl) (fun _ _ _ h => h) (by rfl) hHeld (by intro w hS; obtain ⟨s7, s16⟩ := hS; go_simp; try with_reducible rfl) ?_
          try (rw [put_some]; dsimp only [List.set])
          refine rtake 7 _ (some 72) _ rfl rfl (by kernel_rfl) (by kernel_rfl) (by kernel_rfl) (fun _ _ _ h => h) (by rfl) hHeld (by intro w hS; obtain ⟨s7, s16⟩ := hS; go_simp; try with_reducible rfl) ?_
          try (rw [put_some]; dsimp only [List.set])
          refine rtake 9 _ (some 74) _ rfl rfl (by kernel_rfl) (by kernel_rfl) (by kernel_rfl) (fun _ _ _ h => h) (by rfl) hHeld (by intro w hS; obtain ⟨s7, s16⟩ := hS; go_simp; try with_reducible rfl) ?_
          try (rw [put_some]; dsimp only [List.set])
          refine rtake 15 _ (some 80) _ rfl rfl (by kernel_rfl) (by kernel_rfl) (by kernel_rfl) (fun _ _ _ h => h) (by rfl) hHeld (by intro w hS; obtain ⟨s7, s16⟩ := hS; go_simp; try with_reducible rfl) ?_
          try (rw [put_some]; dsimp only [List.set])
          refine wpAnyH_ready (rs := [16]) (by kernel_rfl) (by simp) (AllReadyH.cons (o := _) rfl (fun K hK => ?_) AllReadyH.nil)
          go_simp
          refine hK.out _ _ (by exact ⟨(World.cell?_alloc_lt _ _ _ hgl).trans c7, (World.cell?_alloc_lt _ _ _ hgl).trans c16⟩) (fun hHeld => ?_)
          clear hK K
          try (rw [put_some]; dsimp only [List.set])
          refine wpAnyH_ready (rs := [17]) (by kernel_rfl) (by simp) (AllReadyH.cons (o := _) rfl (fun K hK => ?_) AllReadyH.nil)
          refine step_append_kept (by rfl) (.tmp 65) (.tmp 81) 60 (by rfl) w.heap.size 53 i0 _ 4 Tryd.underlying60 hi hz0 hz1 hz2 rfl g (j + 16) cap (words (sched l (j + 16))) (by rfl) (hownd.alloc _) ⟨wr.heap.size, 0, none⟩ 1 1 (words [small 1 x2 + x7 + small 0 x15 + x16]) (by rfl) rfl (cells_new _ _ _) (words_one _) hd1 hd2 hd3 ?_; intro v3 w3 hown3 hg3 hk3; have hb3 : Below w.heap.size w w3 := (hbd.alloc hbd.size _).grown hg3 hd3 (fun i hi => by injection hi with hi; omega)
          refine hK.out _ _ (by exact ⟨(hk3 _ (by omega)).trans ((World.cell?_alloc_lt _ _ _ hgl).trans c7), (hk3 _ (by omega)).trans ((World.cell?_alloc_lt _ _ _ hgl).trans c16)⟩) (fun hHeld => ?_)
          clear hK K
          try (rw [put_some]; dsimp only [List.set])
          refine rtake 18 _ (some 3) _ rfl rfl (by kernel_rfl) (by kernel_rfl) (by kernel_rfl) (fun _ _ _ h => h) (by rfl) hHeld (by intro w hS; obtain ⟨s7, s16⟩ := hS; go_simp; try with_reducible rfl) ?_
          try (rw [put_some]; dsimp only [List.set])
          refine wpAnyH_done (by kernel_rfl) ?_ _
          refine NoPanic.normal ?_
          clear c2 c7 c15 c16 w2 w7 w15 n14 m14 t14 n9 m9 t9 n1 m1 t1 m0 w0 hHeld hb hown hownd hbd
          go_wp2_with fail
          go_roundw
          case rel =>
            refine ⟨j + 1, by omega, by go_num, ?_, hb3⟩
            rw [show j + 1 + 16 = j + 16 + 1 by omega, sched, HNX.out, words_append]
            exact hown3
          case measure => simp [intOf]; omega
        · have e48 : j = 48 := by omega
          rw [e48] at hown
          have hl64 := length_sched l 64
          generalize sched l 64 = ws at *
          go_wp2
          go_ret
          exact ⟨_, rfl, by rw [hl64]; exact hown, hb⟩
end Go.Proofs.YtlocgfekgbdlmaaDoor

/- LAYER 2: the document's eight words behind a block. -/
namespace Go.Proofs.YtlocgfekgbdlmaaDoor
open Go.RowKit

@[go_sem] theorem u_notR (a : BitVec 32) : bits .xor .u32 (u a) 4294967295 = u (~~~a) := by
  show IntKind.u32.wrap ((BitVec.ofInt 32 (u a) ^^^ BitVec.ofInt 32 4294967295).toNat : Int) = _
  rw [ofInt_u, show BitVec.ofInt 32 4294967295 = BitVec.allOnes 32 from by decide, BitVec.xor_allOnes]; exact wrap_u _
theorem sl_cell {w : World} {b o c : Nat} {xs : List (BitVec 32)} (h : Sl w (some ⟨b, o, none⟩) c (words xs)) (i : Nat) (hi : i < xs.length) : w.cell? ⟨b, o + i, none⟩ = some (.int .u32 (u (xs.getD i 0#32))) := by
  obtain ⟨b', o', he, _, hc⟩ := h.rd.get (i := i) (by rw [length_words]; exact hi)
  cases he
  rw [hc, get_words _ _ hi]
theorem great_one (x : BitVec 32) : turn x 6 ^^^ turn x 11 ^^^ turn x 25 = great 1 x := by unfold great; rw [if_neg (by decide), if_pos rfl]
theorem great_nil (x : BitVec 32) : turn x 2 ^^^ turn x 13 ^^^ turn x 22 = great 0 x := by unfold great; rw [if_pos rfl]
set_option maxHeartbeats 4000000 in
set_option maxRecDepth 20000 in
theorem rcompress_any (b1 o1 c1' b2 o2 c2' : Nat) (s : St) (l : List UInt8) (hl : l.length = 64) (w : World) (hs1 : Sl w (some ⟨b1, o1, none⟩) c1' (words s.list)) (hs2 : Sl w (some ⟨b2, o2, none⟩) c2' (byts l)) :
    Calls Tryd.prog 36 #[.slice (some ⟨b1, o1, none⟩) 8 c1', .slice (some ⟨b2, o2, none⟩) 64 c2'] w (GaveWords (compS l s).list w) := by
  obtain ⟨i0, hi, hz0, hz1, hz2⟩ := info_parts infoWord
  obtain ⟨ws, hws⟩ : ∃ ws, ws = sched l 64 := ⟨_, rfl⟩
  have hlen : ws.length = 64 := by rw [hws, length_sched]
  have HWS := Lib.hid hws
  clear hws
  have hl8 := Lib.hid (show 8 = (words s.list).length by rw [length_words]; rfl)
  have hm8 : 0 + 8 ≤ maxLen := by unfold maxLen; omega
  go_enter Tryd.func36, Tryd.ntmps36
  go_wp2_with (first
    | (go_at_call 43; refine (rschedule_any b2 o2 c2' l hl _ hs2).mono ?_; rintro e w1 ⟨v1, rfl, hown1, hb1⟩; rw [← HWS.out, hlen] at hown1; obtain ⟨g1, cap1, rfl, _, hgl1⟩ := hown1.form (by omega))
    | (go_at_call 44; refine (rprimes_any _).mono ?_; rintro e w2 ⟨rfl, hp2, hb2⟩; have hb2' := below_step hb1 hb2; have hown2 : (w2.alloc (.cells #[] 53)).ownsRow w.heap.size 53 1 (.slice (some ⟨w2.heap.size, 0, none⟩) 0 0) 0 [] := World.ownsRow_lit w2 #[] 0 hb2'.size (by unfold maxLen; omega) rfl; have hsl2 := (hs1.later (Nat.le_refl _) hb2').later (Nat.le_refl _) ((Below.refl _ w2).alloc (Nat.le_refl _) (.cells #[] 53)); have hb2a := hb2'.alloc hb2'.size (.cells #[] 53))
    | (at_builtin; refine wpList_append_sl rfl (.tmp 19) (.tmp 20) 60 rfl w.heap.size 53 i0 _ 4 Tryd.underlying60 hi hz0 hz1 hz2 rfl _ 0 [] rfl hown2 (some ⟨b1, o1, none⟩) 8 c1' (words s.list) rfl hl8.out hsl2 (words_one _) hm8 (by omega) hb2a.size ?_; intro v3 w3 hown3 hg3; have hb3 : Below w.heap.size w w3 := hb2a.grown hg3 hb2a.size (fun k hk => (hown2.lt k hk).1)))
  have hb23 : Below w2.heap.size w2 w3 := ((Below.refl _ w2).alloc (Nat.le_refl _) _).grown hg3 (by rw [World.size_alloc]; omega) (fun k hk => by have hk' : some w2.heap.size = some k := hk; injection hk' with hk'; omega)
  have hb13 := below_step hb2 hb23
  have hown1' := own_later hown1 hb13 (Nat.le_refl _)
  have hp3 := hp2.later hb23 hp2.lt
  have hg13 : g1 < w3.heap.size := Nat.lt_of_lt_of_le hgl1 hb13.size
  have hp3l := hp3.lt
  simp only [Nat.zero_add, List.nil_append] at hown3
  clear hown1 hb1 hb2 hb2' hown2 hsl2 hb2a hg3 hb23 hb13 hp2 hgl1
  go_loopw [7, 8] (fun v i wr => ∃ k : Nat, k ≤ 64 ∧ i = .int .i64 k ∧ wr.ownsRow w.heap.size 53 1 v 8 (words (roundsS ws s k).list) ∧ Below w3.heap.size w3 wr) (fun _ i _ => 64 - (intOf i).toNat)
  case atStart => exact ⟨0, by omega, rfl, hown3, Below.refl _ _⟩
  case round =>
    clear hown3
    obtain ⟨k, hk, rfl, hown, hb⟩ := hrel
    by_cases hlt : k < 64
    · obtain ⟨g', cap', rfl, _, hgl⟩ := hown.form (by omega)
      have HR := Lib.hid (show roundsS ws s (k + 1) = roundS (roundsS ws s k) (primeW k) (ws.getD k 0#32) from rfl)
      go_wp2_with fail
      have cw : wr.cell? ⟨g1, k, none⟩ = some (.int .u32 (u (ws.getD k 0#32))) := by rw [hb.cell (p := ⟨g1, k, none⟩) hg13]; exact own_cell hown1' k (by omega)
      have cp : wr.cell? ⟨w1.heap.size, k, none⟩ = some (.int .u32 (u (primeW k))) := by rw [u_primeW k hlt]; exact (hp3.later hb hp3l).cube k hlt
      generalize ws.getD k 0#32 = x at *
      generalize roundsS ws s k = st at *
      obtain ⟨a, b, c, d, e, f, g, h⟩ := st
      have n0 : (0 : Int) ≤ (k : Int) := by omega
      have m64 : (k : Int) < 64 := by omega
      have c0 : wr.cell? ⟨g', 0, none⟩ = some (.int .u32 (u a)) := own_cell hown 0 (by show 0 < 8; omega)
      have c1 : wr.cell? ⟨g', 1, none⟩ = some (.int .u32 (u b)) := own_cell hown 1 (by show 1 < 8; omega)
      have c2 : wr.cell? ⟨g', 2, none⟩ = some (.int .u32 (u c)) := own_cell hown 2 (by show 2 < 8; omega)
      have c3 : wr.cell? ⟨g', 3, none⟩ = some (.int .u32 (u d)) := own_cell hown 3 (by show 3 < 8; omega)
      have c4 : wr.cell? ⟨g', 4, none⟩ = some (.int .u32 (u e)) := own_cell hown 4 (by show 4 < 8; omega)
      have c5 : wr.cell? ⟨g', 5, none⟩ = some (.int .u32 (u f)) := own_cell hown 5 (by show 5 < 8; omega)
      have c6 : wr.cell? ⟨g', 6, none⟩ = some (.int .u32 (u g)) := own_cell hown 6 (by show 6 < 8; omega)
      have c7 : wr.cell? ⟨g', 7, none⟩ = some (.int .u32 (u h)) := own_cell hown 7 (by show 7 < 8; omega)
      refine wp_region_noPanic ?_
      refine wp_region_held_drew (S := fun w' => w' = wr.drew) (by kernel_rfl) (rfl) (fun hHeld => ?_)
      refine rtake 0 _ (some 26) _ rfl rfl (by kernel_rfl) (by kernel_rfl) (by kernel_rfl) (fun _ _ _ h => h) (by rfl) rfl (by intro w hS; subst hS; go_simp; try with_reducible rfl) ?_
      try (rw [put_some]; dsimp only [List.set])
      refine rtake 1 _ (some 27) _ rfl rfl (by kernel_rfl) (by kernel_rfl) (by kernel_rfl) (fun _ _ _ h => h) (by rfl) rfl (by intro w hS; subst hS; go_simp; try with_reducible rfl) ?_
      try (rw [put_some]; dsimp only [List.set])
      refine rtake 2 _ (some 28) _ rfl rfl (by kernel_rfl) (by kernel_rfl) (by kernel_rfl) (fun _ _ _ h => h) (by rfl) rfl (by intro w hS; subst hS; go_simp; try with_reducible rfl) ?_
      try (rw [put_some]; dsimp only [List.set])
      refine rtake 4 _ (some 30) _ rfl rfl (by kernel_rfl) (by kernel_rfl) (by kernel_rfl) (fun _ _ _ h => h) (by rfl) rfl (by intro w hS; subst hS; go_simp; try with_reducible rfl) ?_
      try (rw [put_some]; dsimp only [List.set])
      refine rtake 5 _ (some 31) _ rfl rfl (by kernel_rfl) (by kernel_rfl) (by kernel_rfl) (fun _ _ _ h => h) (by rfl) rfl (by intro w hS; subst hS; go_simp; try with_reducible rfl) ?_
      try (rw [put_some]; dsimp only [List.set])
      refine rtake 6 _ (some 32) _ rfl rfl (by kernel_rfl) (by kernel_rfl) (by kernel_rfl) (fun _ _ _ h => h) (by rfl) rfl (by intro w hS; subst hS; go_simp; try with_reducible rfl) ?_
      try (rw [put_some]; dsimp only [List.set])
      refine rtake 9 _ (some 35) _ rfl rfl (by kernel_rfl) (by kernel_rfl) (by kernel_rfl) (fun _ _ _ h => h) (by rfl) rfl (by intro w hS; subst hS; go_simp; try with_reducible rfl) ?_
      try (rw [put_some]; dsimp only [List.set])
      refine rtake 10 _ (some 36) _ rfl rfl (by kernel_rfl) (by kernel_rfl) (by kernel_rfl) (fun _ _ _ h => h) (by rfl) rfl (by intro w hS; subst hS; go_simp; try with_reducible rfl) ?_
      try (rw [put_some]; dsimp only [List.set])
      refine rtake 11 _ (some 37) _ rfl rfl (by kernel_rfl) (by kernel_rfl) (by kernel_rfl) (fun _ _ _ h => h) (by rfl) rfl (by intro w hS; subst hS; go_simp; try with_reducible rfl) ?_
      try (rw [put_some]; dsimp only [List.set])
      refine wpAnyH_ready (rs := [3]) (by kernel_rfl) (by simp) (AllReadyH.cons (o := _) rfl (fun K hK => ?_) AllReadyH.nil)
      go_simp
      refine (rturn2_any _ 6 _ (by decide) (by decide)).mono ?_; rintro e' w' ⟨rfl, rfl⟩
      try go_wp2_with fail
      refine hK.out _ _ rfl (fun _ => ?_)
      clear hK K
      try (rw [put_some]; dsimp only [List.set])
      refine wpAnyH_ready (rs := [7]) (by kernel_rfl) (by simp) (AllReadyH.cons (o := _) rfl (fun K hK => ?_) AllReadyH.nil)
      go_simp
      refine (rturn2_any _ 11 _ (by decide) (by decide)).mono ?_; rintro e' w' ⟨rfl, rfl⟩
      try go_wp2_with fail
      refine hK.out _ _ rfl (fun _ => ?_)
      clear hK K
      try (rw [put_some]; dsimp only [List.set])
      refine rtake 8 _ (some 34) _ rfl rfl (by kernel_rfl) (by kernel_rfl) (by kernel_rfl) (fun _ _ _ h => h) (by rfl) rfl (by intro w hS; subst hS; go_simp; try with_reducible rfl) ?_
      try (rw [put_some]; dsimp only [List.set])
      refine wpAnyH_ready (rs := [12]) (by kernel_rfl) (by simp) (AllReadyH.cons (o := _) rfl (fun K hK => ?_) AllReadyH.nil)
      go_simp
      refine (rturn2_any _ 25 _ (by decide) (by decide)).mono ?_; rintro e' w' ⟨rfl, rfl⟩
      try go_wp2_with fail
      refine hK.out _ _ rfl (fun _ => ?_)
      clear hK K
      try (rw [put_some]; dsimp only [List.set])
      refine rtake 13 _ (some 39) _ rfl rfl (by kernel_rfl) (by kernel_rfl) (by kernel_rfl) (fun _ _ _ h => h) (by rfl) rfl (by intro w hS; subst hS; go_simp; try with_reducible rfl) ?_
      try (rw [put_some]; dsimp only [List.set])
      refine rtake 14 _ (some 9) _ rfl rfl (by kernel_rfl) (by kernel_rfl) (by kernel_rfl) (fun _ _ _ h => h) (by rfl) rfl (by intro w hS; subst hS; go_simp; try with_reducible rfl) ?_
      try (rw [put_some]; dsimp only [List.set])
      refine wpAnyH_done (by kernel_rfl) ?_ _
      refine NoPanic.normal ?_
      rw [great_one]
      generalize hgr : great 1 e = tg
      go_wp2_with fail
      refine wp_region_noPanic ?_
      refine wp_region_held_drew (S := fun w' => w' = wr.drew.drew) (by kernel_rfl) (rfl) (fun hHeld => ?_)
      refine rtake 0 _ (some 40) _ rfl rfl (by kernel_rfl) (by kernel_rfl) (by kernel_rfl) (fun _ _ _ h => h) (by rfl) rfl (by intro w hS; subst hS; go_simp; try with_reducible rfl) ?_
      try (rw [put_some]; dsimp only [List.set])
      refine rtake 1 _ (some 41) _ rfl rfl (by kernel_rfl) (by kernel_rfl) (by kernel_rfl) (fun _ _ _ h => h) (by rfl) rfl (by intro w hS; subst hS; go_simp; try with_reducible rfl) ?_
      try (rw [put_some]; dsimp only [List.set])
      refine rtake 2 _ (some 42) _ rfl rfl (by kernel_rfl) (by kernel_rfl) (by kernel_rfl) (fun _ _ _ h => h) (by rfl) rfl (by intro w hS; subst hS; go_simp; try with_reducible rfl) ?_
      try (rw [put_some]; dsimp only [List.set])
      refine rtake 3 _ (some 43) _ rfl rfl (by kernel_rfl) (by kernel_rfl) (by kernel_rfl) (fun _ _ _ h => h) (by rfl) rfl (by intro w hS; subst hS; go_simp; try with_reducible rfl) ?_
      try (rw [put_some]; dsimp only [List.set])
      refine rtake 4 _ (some 44) _ rfl rfl (by kernel_rfl) (by kernel_rfl) (by kernel_rfl) (fun _ _ _ h => h) (by rfl) rfl (by intro w hS; subst hS; go_simp; try with_reducible rfl) ?_
      try (rw [put_some]; dsimp only [List.set])
      refine rtake 5 _ (some 45) _ rfl rfl (by kernel_rfl) (by kernel_rfl) (by kernel_rfl) (fun _ _ _ h => h) (by rfl) rfl (by intro w hS; subst hS; go_simp; try with_reducible rfl) ?_
      try (rw [put_some]; dsimp only [List.set])
      refine rtake 6 _ (some 46) _ rfl rfl (by kernel_rfl) (by kernel_rfl) (by kernel_rfl) (fun _ _ _ h => h) (by rfl) rfl (by intro w hS; subst hS; go_simp; try with_reducible rfl) ?_
      try (rw [put_some]; dsimp only [List.set])
      refine rtake 7 _ (some 47) _ rfl rfl (by kernel_rfl) (by kernel_rfl) (by kernel_rfl) (fun _ _ _ h => h) (by rfl) rfl (by intro w hS; subst hS; go_simp; try with_reducible rfl) ?_
      try (rw [put_some]; dsimp only [List.set])
      refine rtake 8 _ (some 48) _ rfl rfl (by kernel_rfl) (by kernel_rfl) (by kernel_rfl) (fun _ _ _ h => h) (by rfl) rfl (by intro w hS; subst hS; go_simp; try with_reducible rfl) ?_
      try (rw [put_some]; dsimp only [List.set])
      refine rtake 9 _ (some 49) _ rfl rfl (by kernel_rfl) (by kernel_rfl) (by kernel_rfl) (fun _ _ _ h => h) (by rfl) rfl (by intro w hS; subst hS; go_simp; try with_reducible rfl) ?_
      try (rw [put_some]; dsimp only [List.set])
      refine rtake 10 _ (some 50) _ rfl rfl (by kernel_rfl) (by kernel_rfl) (by kernel_rfl) (fun _ _ _ h => h) (by rfl) rfl (by intro w hS; subst hS; go_simp; try with_reducible rfl) ?_
      try (rw [put_some]; dsimp only [List.set])
      refine rtake 11 _ (some 51) _ rfl rfl (by kernel_rfl) (by kernel_rfl) (by kernel_rfl) (fun _ _ _ h => h) (by rfl) rfl (by intro w hS; subst hS; go_simp; try with_reducible rfl) ?_
      try (rw [put_some]; dsimp only [List.set])
      refine rtake 12 _ (some 52) _ rfl rfl (by kernel_rfl) (by kernel_rfl) (by kernel_rfl) (fun _ _ _ h => h) (by rfl) rfl (by intro w hS; subst hS; go_simp; try with_reducible rfl) ?_
      try (rw [put_some]; dsimp only [List.set])
      refine rtake 13 _ (some 53) _ rfl rfl (by kernel_rfl) (by kernel_rfl) (by kernel_rfl) (fun _ _ _ h => h) (by rfl) rfl (by intro w hS; subst hS; go_simp; try with_reducible rfl) ?_
      try (rw [put_some]; dsimp only [List.set])
      refine rtake 14 _ (some 54) _ rfl rfl (by kernel_rfl) (by kernel_rfl) (by kernel_rfl) (fun _ _ _ h => h) (by rfl) rfl (by intro w hS; subst hS; go_simp; try with_reducible rfl) ?_
      try (rw [put_some]; dsimp only [List.set])
      refine rtake 15 _ (some 55) _ rfl rfl (by kernel_rfl) (by kernel_rfl) (by kernel_rfl) (fun _ _ _ h => h) (by rfl) rfl (by intro w hS; subst hS; go_simp; try with_reducible rfl) ?_
      try (rw [put_some]; dsimp only [List.set])
      refine rtake 16 _ (some 10) _ rfl rfl (by kernel_rfl) (by kernel_rfl) (by kernel_rfl) (fun _ _ _ h => h) (by rfl) rfl (by intro w hS; subst hS; go_simp; try with_reducible rfl) ?_
      try (rw [put_some]; dsimp only [List.set])
      refine wpAnyH_done (by kernel_rfl) ?_ _
      refine NoPanic.normal ?_
      generalize hch : e &&& f ||| ~~~e &&& g = tc
      go_wp2_with fail
      refine wp_region_noPanic ?_
      refine wp_region_held_drew (S := fun w' => w' = wr.drew.drew.drew) (by kernel_rfl) (rfl) (fun hHeld => ?_)
      refine rtake 0 _ (some 56) _ rfl rfl (by kernel_rfl) (by kernel_rfl) (by kernel_rfl) (fun _ _ _ h => h) (by rfl) rfl (by intro w hS; subst hS; go_simp; try with_reducible rfl) ?_
      try (rw [put_some]; dsimp only [List.set])
      refine rtake 1 _ (some 57) _ rfl rfl (by kernel_rfl) (by kernel_rfl) (by kernel_rfl) (fun _ _ _ h => h) (by rfl) rfl (by intro w hS; subst hS; go_simp; try with_reducible rfl) ?_
      try (rw [put_some]; dsimp only [List.set])
      refine rtake 2 _ (some 58) _ rfl rfl (by kernel_rfl) (by kernel_rfl) (by kernel_rfl) (fun _ _ _ h => h) (by rfl) rfl (by intro w hS; subst hS; go_simp; try with_reducible rfl) ?_
      try (rw [put_some]; dsimp only [List.set])
      refine rtake 3 _ (some 59) _ rfl rfl (by kernel_rfl) (by kernel_rfl) (by kernel_rfl) (fun _ _ _ h => h) (by rfl) rfl (by intro w hS; subst hS; go_simp; try with_reducible rfl) ?_
      try (rw [put_some]; dsimp only [List.set])
      refine rtake 4 _ (some 60) _ rfl rfl (by kernel_rfl) (by kernel_rfl) (by kernel_rfl) (fun _ _ _ h => h) (by rfl) rfl (by intro w hS; subst hS; go_simp; try with_reducible rfl) ?_
      try (rw [put_some]; dsimp only [List.set])
      refine rtake 5 _ (some 61) _ rfl rfl (by kernel_rfl) (by kernel_rfl) (by kernel_rfl) (fun _ _ _ h => h) (by rfl) rfl (by intro w hS; subst hS; go_simp; try with_reducible rfl) ?_
      try (rw [put_some]; dsimp only [List.set])
      refine rtake 6 _ (some 62) _ rfl rfl (by kernel_rfl) (by kernel_rfl) (by kernel_rfl) (fun _ _ _ h => h) (by rfl) rfl (by intro w hS; subst hS; go_simp; try with_reducible rfl) ?_
      try (rw [put_some]; dsimp only [List.set])
      refine rtake 7 _ (some 63) _ rfl rfl (by kernel_rfl) (by kernel_rfl) (by kernel_rfl) (fun _ _ _ h => h) (by rfl) rfl (by intro w hS; subst hS; go_simp; try with_reducible rfl) ?_
      try (rw [put_some]; dsimp only [List.set])
      refine rtake 8 _ (some 64) _ rfl rfl (by kernel_rfl) (by kernel_rfl) (by kernel_rfl) (fun _ _ _ h => h) (by rfl) rfl (by intro w hS; subst hS; go_simp; try with_reducible rfl) ?_
      try (rw [put_some]; dsimp only [List.set])
      refine rtake 9 _ (some 65) _ rfl rfl (by kernel_rfl) (by kernel_rfl) (by kernel_rfl) (fun _ _ _ h => h) (by rfl) rfl (by intro w hS; subst hS; go_simp; try with_reducible rfl) ?_
      try (rw [put_some]; dsimp only [List.set])
      refine rtake 10 _ (some 66) _ rfl rfl (by kernel_rfl) (by kernel_rfl) (by kernel_rfl) (fun _ _ _ h => h) (by rfl) rfl (by intro w hS; subst hS; go_simp; try with_reducible rfl) ?_
      try (rw [put_some]; dsimp only [List.set])
      refine rtake 11 _ (some 67) _ rfl rfl (by kernel_rfl) (by kernel_rfl) (by kernel_rfl) (fun _ _ _ h => h) (by rfl) rfl (by intro w hS; subst hS; go_simp; try with_reducible rfl) ?_
      try (rw [put_some]; dsimp only [List.set])
      refine rtake 12 _ (some 68) _ rfl rfl (by kernel_rfl) (by kernel_rfl) (by kernel_rfl) (fun _ _ _ h => h) (by rfl) rfl (by intro w hS; subst hS; go_simp; try with_reducible rfl) ?_
      try (rw [put_some]; dsimp only [List.set])
      refine rtake 13 _ (some 69) _ rfl rfl (by kernel_rfl) (by kernel_rfl) (by kernel_rfl) (fun _ _ _ h => h) (by rfl) rfl (by intro w hS; subst hS; go_simp; try with_reducible rfl) ?_
      try (rw [put_some]; dsimp only [List.set])
      refine rtake 14 _ (some 70) _ rfl rfl (by kernel_rfl) (by kernel_rfl) (by kernel_rfl) (fun _ _ _ h => h) (by rfl) rfl (by intro w hS; subst hS; go_simp; try with_reducible rfl) ?_
      try (rw [put_some]; dsimp only [List.set])
      refine rtake 15 _ (some 71) _ rfl rfl (by kernel_rfl) (by kernel_rfl) (by kernel_rfl) (fun _ _ _ h => h) (by rfl) rfl (by intro w hS; subst hS; go_simp; try with_reducible rfl) ?_
      try (rw [put_some]; dsimp only [List.set])
      refine rtake 16 _ (some 72) _ rfl rfl (by kernel_rfl) (by kernel_rfl) (by kernel_rfl) (fun _ _ _ h => h) (by rfl) rfl (by intro w hS; subst hS; go_simp; try with_reducible rfl) ?_
      try (rw [put_some]; dsimp only [List.set])
      refine rtake 17 _ (some 11) _ rfl rfl (by kernel_rfl) (by kernel_rfl) (by kernel_rfl) (fun _ _ _ h => h) (by rfl) rfl (by intro w hS; subst hS; go_simp; try with_reducible rfl) ?_
      try (rw [put_some]; dsimp only [List.set])
      refine wpAnyH_done (by kernel_rfl) ?_ _
      refine NoPanic.normal ?_
      generalize ht1 : h + tg + tc + primeW k + x = t1
      go_wp2_with fail
      refine wp_region_noPanic ?_
      refine wp_region_held_drew (S := fun w' => w' = wr.drew.drew.drew.drew) (by kernel_rfl) (rfl) (fun hHeld => ?_)
      refine rtake 0 _ (some 73) _ rfl rfl (by kernel_rfl) (by kernel_rfl) (by kernel_rfl) (fun _ _ _ h => h) (by rfl) rfl (by intro w hS; subst hS; go_simp; try with_reducible rfl) ?_
      try (rw [put_some]; dsimp only [List.set])
      refine rtake 1 _ (some 74) _ rfl rfl (by kernel_rfl) (by kernel_rfl) (by kernel_rfl) (fun _ _ _ h => h) (by rfl) rfl (by intro w hS; subst hS; go_simp; try with_reducible rfl) ?_
      try (rw [put_some]; dsimp only [List.set])
      refine rtake 2 _ (some 75) _ rfl rfl (by kernel_rfl) (by kernel_rfl) (by kernel_rfl) (fun _ _ _ h => h) (by rfl) rfl (by intro w hS; subst hS; go_simp; try with_reducible rfl) ?_
      try (rw [put_some]; dsimp only [List.set])
      refine rtake 4 _ (some 77) _ rfl rfl (by kernel_rfl) (by kernel_rfl) (by kernel_rfl) (fun _ _ _ h => h) (by rfl) rfl (by intro w hS; subst hS; go_simp; try with_reducible rfl) ?_
      try (rw [put_some]; dsimp only [List.set])
      refine rtake 5 _ (some 78) _ rfl rfl (by kernel_rfl) (by kernel_rfl) (by kernel_rfl) (fun _ _ _ h => h) (by rfl) rfl (by intro w hS; subst hS; go_simp; try with_reducible rfl) ?_
      try (rw [put_some]; dsimp only [List.set])
      refine rtake 6 _ (some 79) _ rfl rfl (by kernel_rfl) (by kernel_rfl) (by kernel_rfl) (fun _ _ _ h => h) (by rfl) rfl (by intro w hS; subst hS; go_simp; try with_reducible rfl) ?_
      try (rw [put_some]; dsimp only [List.set])
      refine rtake 9 _ (some 82) _ rfl rfl (by kernel_rfl) (by kernel_rfl) (by kernel_rfl) (fun _ _ _ h => h) (by rfl) rfl (by intro w hS; subst hS; go_simp; try with_reducible rfl) ?_
      try (rw [put_some]; dsimp only [List.set])
      refine rtake 10 _ (some 83) _ rfl rfl (by kernel_rfl) (by kernel_rfl) (by kernel_rfl) (fun _ _ _ h => h) (by rfl) rfl (by intro w hS; subst hS; go_simp; try with_reducible rfl) ?_
      try (rw [put_some]; dsimp only [List.set])
      refine rtake 11 _ (some 84) _ rfl rfl (by kernel_rfl) (by kernel_rfl) (by kernel_rfl) (fun _ _ _ h => h) (by rfl) rfl (by intro w hS; subst hS; go_simp; try with_reducible rfl) ?_
      try (rw [put_some]; dsimp only [List.set])
      refine wpAnyH_ready (rs := [3]) (by kernel_rfl) (by simp) (AllReadyH.cons (o := _) rfl (fun K hK => ?_) AllReadyH.nil)
      go_simp
      refine (rturn2_any _ 2 _ (by decide) (by decide)).mono ?_; rintro e' w' ⟨rfl, rfl⟩
      try go_wp2_with fail
      refine hK.out _ _ rfl (fun _ => ?_)
      clear hK K
      try (rw [put_some]; dsimp only [List.set])
      refine wpAnyH_ready (rs := [7]) (by kernel_rfl) (by simp) (AllReadyH.cons (o := _) rfl (fun K hK => ?_) AllReadyH.nil)
      go_simp
      refine (rturn2_any _ 13 _ (by decide) (by decide)).mono ?_; rintro e' w' ⟨rfl, rfl⟩
      try go_wp2_with fail
      refine hK.out _ _ rfl (fun _ => ?_)
      clear hK K
      try (rw [put_some]; dsimp only [List.set])
      refine rtake 8 _ (some 81) _ rfl rfl (by kernel_rfl) (by kernel_rfl) (by kernel_rfl) (fun _ _ _ h => h) (by rfl) rfl (by intro w hS; subst hS; go_simp; try with_reducible rfl) ?_
      try (rw [put_some]; dsimp only [List.set])
      refine wpAnyH_ready (rs := [12]) (by kernel_rfl) (by simp) (AllReadyH.cons (o := _) rfl (fun K hK => ?_) AllReadyH.nil)
      go_simp
      refine (rturn2_any _ 22 _ (by decide) (by decide)).mono ?_; rintro e' w' ⟨rfl, rfl⟩
      try go_wp2_with fail
      refine hK.out _ _ rfl (fun _ => ?_)
      clear hK K
      try (rw [put_some]; dsimp only [List.set])
      refine rtake 13 _ (some 86) _ rfl rfl (by kernel_rfl) (by kernel_rfl) (by kernel_rfl) (fun _ _ _ h => h) (by rfl) rfl (by intro w hS; subst hS; go_simp; try with_reducible rfl) ?_
      try (rw [put_some]; dsimp only [List.set])
      refine rtake 14 _ (some 12) _ rfl rfl (by kernel_rfl) (by kernel_rfl) (by kernel_rfl) (fun _ _ _ h => h) (by rfl) rfl (by intro w hS; subst hS; go_simp; try with_reducible rfl) ?_
      try (rw [put_some]; dsimp only [List.set])
      refine wpAnyH_done (by kernel_rfl) ?_ _
      refine NoPanic.normal ?_
      rw [great_nil]
      generalize hgr0 : great 0 a = tg0
      go_wp2_with fail
      refine wp_region_noPanic ?_
      refine wp_region_held_drew (S := fun w' => w' = wr.drew.drew.drew.drew.drew) (by kernel_rfl) (rfl) (fun hHeld => ?_)
      refine rtake 0 _ (some 87) _ rfl rfl (by kernel_rfl) (by kernel_rfl) (by kernel_rfl) (fun _ _ _ h => h) (by rfl) rfl (by intro w hS; subst hS; go_simp; try with_reducible rfl) ?_
      try (rw [put_some]; dsimp only [List.set])
      refine rtake 1 _ (some 88) _ rfl rfl (by kernel_rfl) (by kernel_rfl) (by kernel_rfl) (fun _ _ _ h => h) (by rfl) rfl (by intro w hS; subst hS; go_simp; try with_reducible rfl) ?_
      try (rw [put_some]; dsimp only [List.set])
      refine rtake 2 _ (some 89) _ rfl rfl (by kernel_rfl) (by kernel_rfl) (by kernel_rfl) (fun _ _ _ h => h) (by rfl) rfl (by intro w hS; subst hS; go_simp; try with_reducible rfl) ?_
      try (rw [put_some]; dsimp only [List.set])
      refine rtake 3 _ (some 90) _ rfl rfl (by kernel_rfl) (by kernel_rfl) (by kernel_rfl) (fun _ _ _ h => h) (by rfl) rfl (by intro w hS; subst hS; go_simp; try with_reducible rfl) ?_
      try (rw [put_some]; dsimp only [List.set])
      refine rtake 4 _ (some 91) _ rfl rfl (by kernel_rfl) (by kernel_rfl) (by kernel_rfl) (fun _ _ _ h => h) (by rfl) rfl (by intro w hS; subst hS; go_simp; try with_reducible rfl) ?_
      try (rw [put_some]; dsimp only [List.set])
      refine rtake 5 _ (some 92) _ rfl rfl (by kernel_rfl) (by kernel_rfl) (by kernel_rfl) (fun _ _ _ h => h) (by rfl) rfl (by intro w hS; subst hS; go_simp; try with_reducible rfl) ?_
      try (rw [put_some]; dsimp only [List.set])
      refine rtake 6 _ (some 93) _ rfl rfl (by kernel_rfl) (by kernel_rfl) (by kernel_rfl) (fun _ _ _ h => h) (by rfl) rfl (by intro w hS; subst hS; go_simp; try with_reducible rfl) ?_
      try (rw [put_some]; dsimp only [List.set])
      refine rtake 7 _ (some 94) _ rfl rfl (by kernel_rfl) (by kernel_rfl) (by kernel_rfl) (fun _ _ _ h => h) (by rfl) rfl (by intro w hS; subst hS; go_simp; try with_reducible rfl) ?_
      try (rw [put_some]; dsimp only [List.set])
      refine rtake 8 _ (some 95) _ rfl rfl (by kernel_rfl) (by kernel_rfl) (by kernel_rfl) (fun _ _ _ h => h) (by rfl) rfl (by intro w hS; subst hS; go_simp; try with_reducible rfl) ?_
      try (rw [put_some]; dsimp only [List.set])
      refine rtake 9 _ (some 96) _ rfl rfl (by kernel_rfl) (by kernel_rfl) (by kernel_rfl) (fun _ _ _ h => h) (by rfl) rfl (by intro w hS; subst hS; go_simp; try with_reducible rfl) ?_
      try (rw [put_some]; dsimp only [List.set])
      refine rtake 10 _ (some 97) _ rfl rfl (by kernel_rfl) (by kernel_rfl) (by kernel_rfl) (fun _ _ _ h => h) (by rfl) rfl (by intro w hS; subst hS; go_simp; try with_reducible rfl) ?_
      try (rw [put_some]; dsimp only [List.set])
      refine rtake 11 _ (some 98) _ rfl rfl (by kernel_rfl) (by kernel_rfl) (by kernel_rfl) (fun _ _ _ h => h) (by rfl) rfl (by intro w hS; subst hS; go_simp; try with_reducible rfl) ?_
      try (rw [put_some]; dsimp only [List.set])
      refine rtake 12 _ (some 99) _ rfl rfl (by kernel_rfl) (by kernel_rfl) (by kernel_rfl) (fun _ _ _ h => h) (by rfl) rfl (by intro w hS; subst hS; go_simp; try with_reducible rfl) ?_
      try (rw [put_some]; dsimp only [List.set])
      refine rtake 13 _ (some 100) _ rfl rfl (by kernel_rfl) (by kernel_rfl) (by kernel_rfl) (fun _ _ _ h => h) (by rfl) rfl (by intro w hS; subst hS; go_simp; try with_reducible rfl) ?_
      try (rw [put_some]; dsimp only [List.set])
      refine rtake 14 _ (some 101) _ rfl rfl (by kernel_rfl) (by kernel_rfl) (by kernel_rfl) (fun _ _ _ h => h) (by rfl) rfl (by intro w hS; subst hS; go_simp; try with_reducible rfl) ?_
      try (rw [put_some]; dsimp only [List.set])
      refine rtake 15 _ (some 102) _ rfl rfl (by kernel_rfl) (by kernel_rfl) (by kernel_rfl) (fun _ _ _ h => h) (by rfl) rfl (by intro w hS; subst hS; go_simp; try with_reducible rfl) ?_
      try (rw [put_some]; dsimp only [List.set])
      refine rtake 16 _ (some 103) _ rfl rfl (by kernel_rfl) (by kernel_rfl) (by kernel_rfl) (fun _ _ _ h => h) (by rfl) rfl (by intro w hS; subst hS; go_simp; try with_reducible rfl) ?_
      try (rw [put_some]; dsimp only [List.set])
      refine rtake 17 _ (some 104) _ rfl rfl (by kernel_rfl) (by kernel_rfl) (by kernel_rfl) (fun _ _ _ h => h) (by rfl) rfl (by intro w hS; subst hS; go_simp; try with_reducible rfl) ?_
      try (rw [put_some]; dsimp only [List.set])
      refine rtake 18 _ (some 105) _ rfl rfl (by kernel_rfl) (by kernel_rfl) (by kernel_rfl) (fun _ _ _ h => h) (by rfl) rfl (by intro w hS; subst hS; go_simp; try with_reducible rfl) ?_
      try (rw [put_some]; dsimp only [List.set])
      refine rtake 19 _ (some 106) _ rfl rfl (by kernel_rfl) (by kernel_rfl) (by kernel_rfl) (fun _ _ _ h => h) (by rfl) rfl (by intro w hS; subst hS; go_simp; try with_reducible rfl) ?_
      try (rw [put_some]; dsimp only [List.set])
      refine rtake 20 _ (some 107) _ rfl rfl (by kernel_rfl) (by kernel_rfl) (by kernel_rfl) (fun _ _ _ h => h) (by rfl) rfl (by intro w hS; subst hS; go_simp; try with_reducible rfl) ?_
      try (rw [put_some]; dsimp only [List.set])
      refine rtake 21 _ (some 108) _ rfl rfl (by kernel_rfl) (by kernel_rfl) (by kernel_rfl) (fun _ _ _ h => h) (by rfl) rfl (by intro w hS; subst hS; go_simp; try with_reducible rfl) ?_
      try (rw [put_some]; dsimp only [List.set])
      refine rtake 22 _ (some 109) _ rfl rfl (by kernel_rfl) (by kernel_rfl) (by kernel_rfl) (fun _ _ _ h => h) (by rfl) rfl (by intro w hS; subst hS; go_simp; try with_reducible rfl) ?_
      try (rw [put_some]; dsimp only [List.set])
      refine rtake 23 _ (some 13) _ rfl rfl (by kernel_rfl) (by kernel_rfl) (by kernel_rfl) (fun _ _ _ h => h) (by rfl) rfl (by intro w hS; subst hS; go_simp; try with_reducible rfl) ?_
      try (rw [put_some]; dsimp only [List.set])
      refine wpAnyH_done (by kernel_rfl) ?_ _
      refine NoPanic.normal ?_
      generalize hmo : a &&& b ||| a &&& c ||| b &&& c = tm
      go_wp2_with fail
      refine wp_region_noPanic ?_
      refine wp_region_held_drew (S := fun w' => w'.cell? ⟨g', 0, none⟩ = some (.int .u32 (u a)) ∧ w'.cell? ⟨g', 1, none⟩ = some (.int .u32 (u b)) ∧ w'.cell? ⟨g', 2, none⟩ = some (.int .u32 (u c)) ∧ w'.cell? ⟨g', 3, none⟩ = some (.int .u32 (u d)) ∧ w'.cell? ⟨g', 4, none⟩ = some (.int .u32 (u e)) ∧ w'.cell? ⟨g', 5, none⟩ = some (.int .u32 (u f)) ∧ w'.cell? ⟨g', 6, none⟩ = some (.int .u32 (u g))) (by kernel_rfl) (⟨c0, c1, c2, c3, c4, c5, c6⟩) (fun hHeld => ?_)
      refine rtake 0 _ (some 113) _ rfl rfl (by kernel_rfl) (by kernel_rfl) (by kernel_rfl) (fun _ _ _ h => h) (by rfl) hHeld (by intro w hS; obtain ⟨s0, s1, s2, s3, s4, s5, s6⟩ := hS; go_simp; try with_reducible rfl) ?_
      try (rw [put_some]; dsimp only [List.set])
      refine rtake 1 _ (some 114) _ rfl rfl (by kernel_rfl) (by kernel_rfl) (by kernel_rfl) (fun _ _ _ h => h) (by rfl) hHeld (by intro w hS; obtain ⟨s0, s1, s2, s3, s4, s5, s6⟩ := hS; go_simp; try with_reducible rfl) ?_
      try (rw [put_some]; dsimp only [List.set])
      refine rtake 2 _ (some 115) _ rfl rfl (by kernel_rfl) (by kernel_rfl) (by kernel_rfl) (fun _ _ _ h => h) (by rfl) hHeld (by intro w hS; obtain ⟨s0, s1, s2, s3, s4, s5, s6⟩ := hS; go_simp; try with_reducible rfl) ?_
      try (rw [put_some]; dsimp only [List.set])
      refine rtake 3 _ (some 116) _ rfl rfl (by kernel_rfl) (by kernel_rfl) (by kernel_rfl) (fun _ _ _ h => h) (by rfl) hHeld (by intro w hS; obtain ⟨s0, s1, s2, s3, s4, s5, s6⟩ := hS; go_simp; try with_reducible rfl) ?_
      try (rw [put_some]; dsimp only [List.set])
      refine rtake 4 _ (some 117) _ rfl rfl (by kernel_rfl) (by kernel_rfl) (by kernel_rfl) (fun _ _ _ h => h) (by rfl) hHeld (by intro w hS; obtain ⟨s0, s1, s2, s3, s4, s5, s6⟩ := hS; go_simp; try with_reducible rfl) ?_
      try (rw [put_some]; dsimp only [List.set])
      refine rtake 5 _ (some 118) _ rfl rfl (by kernel_rfl) (by kernel_rfl) (by kernel_rfl) (fun _ _ _ h => h) (by rfl) hHeld (by intro w hS; obtain ⟨s0, s1, s2, s3, s4, s5, s6⟩ := hS; go_simp; try with_reducible rfl) ?_
      try (rw [put_some]; dsimp only [List.set])
      refine rtake 6 _ (some 119) _ rfl rfl (by kernel_rfl) (by kernel_rfl) (by kernel_rfl) (fun _ _ _ h => h) (by rfl) hHeld (by intro w hS; obtain ⟨s0, s1, s2, s3, s4, s5, s6⟩ := hS; go_simp; try with_reducible rfl) ?_
      try (rw [put_some]; dsimp only [List.set])
      refine rtake 7 _ (some 120) _ rfl rfl (by kernel_rfl) (by kernel_rfl) (by kernel_rfl) (fun _ _ _ h => h) (by rfl) hHeld (by intro w hS; obtain ⟨s0, s1, s2, s3, s4, s5, s6⟩ := hS; go_simp; try with_reducible rfl) ?_
      try (rw [put_some]; dsimp only [List.set])
      refine rtake 8 _ (some 121) _ rfl rfl (by kernel_rfl) (by kernel_rfl) (by kernel_rfl) (fun _ _ _ h => h) (by rfl) hHeld (by intro w hS; obtain ⟨s0, s1, s2, s3, s4, s5, s6⟩ := hS; go_simp; try with_reducible rfl) ?_
      try (rw [put_some]; dsimp only [List.set])
      refine rtake 9 _ (some 122) _ rfl rfl (by kernel_rfl) (by kernel_rfl) (by kernel_rfl) (fun _ _ _ h => h) (by rfl) hHeld (by intro w hS; obtain ⟨s0, s1, s2, s3, s4, s5, s6⟩ := hS; go_simp; try with_reducible rfl) ?_
      try (rw [put_some]; dsimp only [List.set])
      refine rtake 10 _ (some 123) _ rfl rfl (by kernel_rfl) (by kernel_rfl) (by kernel_rfl) (fun _ _ _ h => h) (by rfl) hHeld (by intro w hS; obtain ⟨s0, s1, s2, s3, s4, s5, s6⟩ := hS; go_simp; try with_reducible rfl) ?_
      try (rw [put_some]; dsimp only [List.set])
      refine rtake 11 _ (some 124) _ rfl rfl (by kernel_rfl) (by kernel_rfl) (by kernel_rfl) (fun _ _ _ h => h) (by rfl) hHeld (by intro w hS; obtain ⟨s0, s1, s2, s3, s4, s5, s6⟩ := hS; go_simp; try with_reducible rfl) ?_
      try (rw [put_some]; dsimp only [List.set])
      refine rtake 12 _ (some 125) _ rfl rfl (by kernel_rfl) (by kernel_rfl) (by kernel_rfl) (fun _ _ _ h => h) (by rfl) hHeld (by intro w hS; obtain ⟨s0, s1, s2, s3, s4, s5, s6⟩ := hS; go_simp; try with_reducible rfl) ?_
      try (rw [put_some]; dsimp only [List.set])
      refine rtake 13 _ (some 126) _ rfl rfl (by kernel_rfl) (by kernel_rfl) (by kernel_rfl) (fun _ _ _ h => h) (by rfl) hHeld (by intro w hS; obtain ⟨s0, s1, s2, s3, s4, s5, s6⟩ := hS; go_simp; try with_reducible rfl) ?_
      try (rw [put_some]; dsimp only [List.set])
      refine rtake 14 _ (some 127) _ rfl rfl (by kernel_rfl) (by kernel_rfl) (by kernel_rfl) (fun _ _ _ h => h) (by rfl) hHeld (by intro w hS; obtain ⟨s0, s1, s2, s3, s4, s5, s6⟩ := hS; go_simp; try with_reducible rfl) ?_
      try (rw [put_some]; dsimp only [List.set])
      refine rtake 15 _ (some 128) _ rfl rfl (by kernel_rfl) (by kernel_rfl) (by kernel_rfl) (fun _ _ _ h => h) (by rfl) hHeld (by intro w hS; obtain ⟨s0, s1, s2, s3, s4, s5, s6⟩ := hS; go_simp; try with_reducible rfl) ?_
      try (rw [put_some]; dsimp only [List.set])
      refine rtake 16 _ (some 129) _ rfl rfl (by kernel_rfl) (by kernel_rfl) (by kernel_rfl) (fun _ _ _ h => h) (by rfl) hHeld (by intro w hS; obtain ⟨s0, s1, s2, s3, s4, s5, s6⟩ := hS; go_simp; try with_reducible rfl) ?_
      try (rw [put_some]; dsimp only [List.set])
      refine rtake 17 _ (some 130) _ rfl rfl (by kernel_rfl) (by kernel_rfl) (by kernel_rfl) (fun _ _ _ h => h) (by rfl) hHeld (by intro w hS; obtain ⟨s0, s1, s2, s3, s4, s5, s6⟩ := hS; go_simp; try with_reducible rfl) ?_
      try (rw [put_some]; dsimp only [List.set])
      refine rtake 18 _ (some 131) _ rfl rfl (by kernel_rfl) (by kernel_rfl) (by kernel_rfl) (fun _ _ _ h => h) (by rfl) hHeld (by intro w hS; obtain ⟨s0, s1, s2, s3, s4, s5, s6⟩ := hS; go_simp; try with_reducible rfl) ?_
      try (rw [put_some]; dsimp only [List.set])
      refine rtake 19 _ (some 132) _ rfl rfl (by kernel_rfl) (by kernel_rfl) (by kernel_rfl) (fun _ _ _ h => h) (by rfl) hHeld (by intro w hS; obtain ⟨s0, s1, s2, s3, s4, s5, s6⟩ := hS; go_simp; try with_reducible rfl) ?_
      try (rw [put_some]; dsimp only [List.set])
      refine rtake 20 _ (some 133) _ rfl rfl (by kernel_rfl) (by kernel_rfl) (by kernel_rfl) (fun _ _ _ h => h) (by rfl) hHeld (by intro w hS; obtain ⟨s0, s1, s2, s3, s4, s5, s6⟩ := hS; go_simp; try with_reducible rfl) ?_
      try (rw [put_some]; dsimp only [List.set])
      refine rtake 21 _ (some 134) _ rfl rfl (by kernel_rfl) (by kernel_rfl) (by kernel_rfl) (fun _ _ _ h => h) (by rfl) hHeld (by intro w hS; obtain ⟨s0, s1, s2, s3, s4, s5, s6⟩ := hS; go_simp; try with_reducible rfl) ?_
      try (rw [put_some]; dsimp only [List.set])
      refine rtake 22 _ (some 135) _ rfl rfl (by kernel_rfl) (by kernel_rfl) (by kernel_rfl) (fun _ _ _ h => h) (by rfl) hHeld (by intro w hS; obtain ⟨s0, s1, s2, s3, s4, s5, s6⟩ := hS; go_simp; try with_reducible rfl) ?_
      try (rw [put_some]; dsimp only [List.set])
      refine rtake 23 _ (some 136) _ rfl rfl (by kernel_rfl) (by kernel_rfl) (by kernel_rfl) (fun _ _ _ h => h) (by rfl) hHeld (by intro w hS; obtain ⟨s0, s1, s2, s3, s4, s5, s6⟩ := hS; go_simp; try with_reducible rfl) ?_
      try (rw [put_some]; dsimp only [List.set])
      refine rtake 24 _ (some 137) _ rfl rfl (by kernel_rfl) (by kernel_rfl) (by kernel_rfl) (fun _ _ _ h => h) (by rfl) hHeld (by intro w hS; obtain ⟨s0, s1, s2, s3, s4, s5, s6⟩ := hS; go_simp; try with_reducible rfl) ?_
      try (rw [put_some]; dsimp only [List.set])
      refine rtake 25 _ (some 138) _ rfl rfl (by kernel_rfl) (by kernel_rfl) (by kernel_rfl) (fun _ _ _ h => h) (by rfl) hHeld (by intro w hS; obtain ⟨s0, s1, s2, s3, s4, s5, s6⟩ := hS; go_simp; try with_reducible rfl) ?_
      try (rw [put_some]; dsimp only [List.set])
      refine wpAnyH_ready (rs := [26]) (by kernel_rfl) (by simp) (AllReadyH.cons (o := _) rfl (fun K hK => ?_) AllReadyH.nil)
      go_simp
      refine hK.out _ _ (by exact ⟨(World.cell?_alloc_lt _ _ _ hgl).trans c0, (World.cell?_alloc_lt _ _ _ hgl).trans c1, (World.cell?_alloc_lt _ _ _ hgl).trans c2, (World.cell?_alloc_lt _ _ _ hgl).trans c3, (World.cell?_alloc_lt _ _ _ hgl).trans c4, (World.cell?_alloc_lt _ _ _ hgl).trans c5, (World.cell?_alloc_lt _ _ _ hgl).trans c6⟩) (fun hHeld => ?_)
      clear hK K
      try (rw [put_some]; dsimp only [List.set])
      refine rtake 27 _ (some 7) _ rfl rfl (by kernel_rfl) (by kernel_rfl) (by kernel_rfl) (fun _ _ _ h => h) (by rfl) hHeld (by intro w hS; obtain ⟨s0, s1, s2, s3, s4, s5, s6⟩ := hS; go_simp; try with_reducible rfl) ?_
      try (rw [put_some]; dsimp only [List.set])
      refine wpAnyH_done (by kernel_rfl) ?_ _
      refine NoPanic.normal ?_
      have hbs := hb.size
      have hbd := (hb.alloc hbs (.cells #[Value.int .u32 (u (t1 + (tg0 + tm))), Value.int .u32 (u a), Value.int .u32 (u b), Value.int .u32 (u c), Value.int .u32 (u (d + t1)), Value.int .u32 (u e), Value.int .u32 (u f), Value.int .u32 (u g)] 53)).drew.drew.drew.drew.drew.drew
      have hs3 := hb3.size
      clear c0 c1 c2 c3 c4 c5 c6 c7 cw cp n0 m64 hHeld hb hown hgl
      go_wp2_with fail
      go_roundw
      case rel =>
        refine ⟨k + 1, by omega, by go_num, ?_, hbd⟩
        rw [HR.out]
        have ho := World.ownsRow_lit (base := w.heap.size) (e := 53) (size := 1) wr #[Value.int .u32 (u (t1 + (tg0 + tm))), Value.int .u32 (u a), Value.int .u32 (u b), Value.int .u32 (u c), Value.int .u32 (u (d + t1)), Value.int .u32 (u e), Value.int .u32 (u f), Value.int .u32 (u g)] 8 (by omega) (by unfold maxLen; omega) rfl
        rw [← ht1, ← hgr, ← hch, ← hgr0, ← hmo] at ho ⊢
        exact ho
      case measure => simp [intOf]; omega
    · have e64 : k = 64 := by omega
      rw [e64] at hown
      generalize hst : roundsS ws s 64 = st at *
      have HST := Lib.hid hst
      clear hst e64 hown1' hp3 hg13 hp3l
      obtain ⟨g', cap', rfl, hgb, hgl⟩ := hown.form (by omega)
      go_wp2_with fail
      have hA8 : (addS st s).list.length = 8 := rfl
      have hB8 : st.list.length = 8 := rfl
      have hbw := hb3.trans (hb.mono hb3.size)
      have hb1w := sl_lt hs1 (by rw [← hl8.out]; omega)
      have hne : (⟨g', 0, none⟩ : Addr).block ≠ b1 := by show g' ≠ b1; omega
      rw [show words st.list = words (mixL (addS st s).list st.list 0) from rfl] at hown
      clear hb hb3 hgl
      go_loopw [142] (fun i wr => ∃ k : Nat, k ≤ 8 ∧ i = .int .i64 k ∧ wr.ownsRow w.heap.size 53 1 (.slice (some ⟨g', 0, none⟩) 8 cap') 8 (words (mixL (addS st s).list st.list k)) ∧ Below w.heap.size w wr) (fun i _ => 8 - (intOf i).toNat)
      case atStart => exact ⟨0, by omega, rfl, hown, hbw⟩
      case round =>
        clear hown hbw
        obtain ⟨i, hi8, rfl, hown, hb⟩ := hrel
        by_cases hlt8 : i < 8
        · go_wp2_with fail
          have c1 := own_cell hown i (by rw [length_mixL _ _ _ hA8 hB8]; exact hlt8)
          rw [mixL_get _ _ _ hA8 hB8 hlt8] at c1
          have c2 := sl_cell (hs1.later (Nat.le_refl _) hb.drew) i (by have h := hl8.out; rw [length_words] at h; omega)
          have hsum := addS_get st s i hlt8
          have hset := mixL_set (addS st s).list st.list i hA8 hB8 hlt8
          obtain ⟨ys, hrow⟩ := Row.of_own hown
          have hf := hrow.free i
          generalize st.list.getD i 0#32 = y at *
          generalize s.list.getD i 0#32 = z at *
          have n0 : (0 : Int) ≤ (i : Int) := by omega
          have n8 : (i : Int) < 8 := by omega
          clear hrow
          refine wp_region_noPanic ?_
          refine wp_region_held_drew (S := fun w' => w'.cell? ⟨b1, o1 + i, none⟩ = some (.int .u32 (u z))) (by kernel_rfl) (c2) (fun hHeld => ?_)
          refine rtake 0 _ (some 145) _ rfl rfl (by kernel_rfl) (by kernel_rfl) (by kernel_rfl) (fun _ _ _ h => h) (by rfl) hHeld (by intro w hS; go_simp; try with_reducible rfl) ?_
          try (rw [put_some]; dsimp only [List.set])
          refine rtake 1 _ (some 146) _ rfl rfl (by kernel_rfl) (by kernel_rfl) (by kernel_rfl) (fun _ _ _ h => h) (by rfl) hHeld (by intro w hS; go_simp; try with_reducible rfl) ?_
          try (rw [put_some]; dsimp only [List.set])
          refine rtake 2 _ (some 147) _ rfl rfl (by kernel_rfl) (by kernel_rfl) (by kernel_rfl) (fun _ _ _ h => h) (by rfl) hHeld (by intro w hS; go_simp; try with_reducible rfl) ?_
          try (rw [put_some]; dsimp only [List.set])
          refine rtake 3 _ (some 148) _ rfl rfl (by kernel_rfl) (by kernel_rfl) (by kernel_rfl) (fun _ _ _ h => h) (by rfl) hHeld (by intro w hS; go_simp; try with_reducible rfl) ?_
          try (rw [put_some]; dsimp only [List.set])
          refine rtake 4 _ (some 149) _ rfl rfl (by kernel_rfl) (by kernel_rfl) (by kernel_rfl) (fun _ _ _ h => h) (by rfl) hHeld (by intro w hS; go_simp; try with_reducible rfl) ?_
          try (rw [put_some]; dsimp only [List.set])
          refine rtake 6 _ (some 151) _ rfl rfl (by kernel_rfl) (by kernel_rfl) (by kernel_rfl) (fun _ _ _ h => h) (by rfl) hHeld (by intro w hS; go_simp; try with_reducible rfl) ?_
          try (rw [put_some]; dsimp only [List.set])
          refine rtake 7 _ (some 152) _ rfl rfl (by kernel_rfl) (by kernel_rfl) (by kernel_rfl) (fun _ _ _ h => h) (by rfl) hHeld (by intro w hS; go_simp; try with_reducible rfl) ?_
          try (rw [put_some]; dsimp only [List.set])
          refine rtake 8 _ (some 153) _ rfl rfl (by kernel_rfl) (by kernel_rfl) (by kernel_rfl) (fun _ _ _ h => h) (by rfl) hHeld (by intro w hS; go_simp; try with_reducible rfl) ?_
          try (rw [put_some]; dsimp only [List.set])
          refine rtake 9 _ (some 154) _ rfl rfl (by kernel_rfl) (by kernel_rfl) (by kernel_rfl) (fun _ _ _ h => h) (by rfl) hHeld (by intro w hS; go_simp; try with_reducible rfl) ?_
          try (rw [put_some]; dsimp only [List.set])
          refine wpAnyH_ready (rs := [5]) (by kernel_rfl) (by simp) (AllReadyH.cons (o := _) rfl (fun K hK => ?_) AllReadyH.nil)
          go_simp
          refine hK.out _ _ (hHeld) (fun hHeld => ?_)
          clear hK K
          try (rw [put_some]; dsimp only [List.set])
          refine rtake 10 _ (some 155) _ rfl rfl (by kernel_rfl) (by kernel_rfl) (by kernel_rfl) (fun _ _ _ h => h) (by rfl) hHeld (by intro w hS; go_simp; try with_reducible rfl) ?_
          try (rw [put_some]; dsimp only [List.set])
          refine rtake 11 _ (some 156) _ rfl rfl (by kernel_rfl) (by kernel_rfl) (by kernel_rfl) (fun _ _ _ h => h) (by rfl) hHeld (by intro w hS; go_simp; try with_reducible rfl) ?_
          try (rw [put_some]; dsimp only [List.set])
          refine wpAnyH_ready (rs := [12]) (by kernel_rfl) (by simp) (AllReadyH.cons (o := _) rfl (fun K hK => ?_) AllReadyH.nil)
          go_simp
          refine hK.out _ _ (by exact (World.cell?_setCell_far _ _ _ _ hne).trans c2) (fun _ => ?_)
          clear hK K
          try (rw [put_some]; dsimp only [List.set])
          refine wpAnyH_done (by kernel_rfl) ?_ _
          refine NoPanic.normal ?_
          have hos := (own_set hown i (.int .u32 (u (y + z)))).drew
          rw [← hsum, hset, hsum] at hos
          have hbs := (hb.setCell (p := ⟨g', i, none⟩) (by show w.heap.size ≤ g'; exact hgb) (.int .u32 (u (y + z)))).drew
          clear c1 c2 hf n0 n8 hset hown hb
          go_wp2_with fail
          go_roundw
          case rel => exact ⟨i + 1, by omega, by go_num, hos, hbs⟩
          case measure => simp [intOf]; omega
        · have e8 : i = 8 := by omega
          rw [e8] at hown
          have hz : mixL (addS st s).list st.list 8 = (addS st s).list := rfl
          have hcomp : compS l s = addS (roundsS ws s 64) s := by unfold compS; rw [HWS.out]
          rw [HST.out] at hcomp
          rw [hz, ← hcomp] at hown
          have hl9 : (compS l s).list.length = 8 := rfl
          generalize (compS l s).list = cs at *
          go_wp2
          go_ret
          exact ⟨_, rfl, by rw [hl9]; exact hown, hb⟩
end Go.Proofs.YtlocgfekgbdlmaaDoor

/- LAYER 1's DOCUMENT (chittyref01), bit by bit, walked: each sum is the word that has those bits. -/
namespace Go.Proofs.YtlocgfekgbdlmaaDoor
open Go.RowKit

theorem rem2 (v : BitVec 32) (k : Nat) : (u (v >>> k)).tmod 2 = bit v k := by
  rw [Int.tmod_eq_emod_of_nonneg (u_bd _).1, bit_shr]
theorem u_quo8 (x : BitVec 32) : IntKind.u32.wrap ((u x).tdiv 8) = u (x >>> 3) := by
  rw [IntWalk.u32_quo _ _ ⟨(u_bd x).1, by have := u_bd x; omega, by decide⟩, u_shr3]
theorem u_quo1024 (x : BitVec 32) : IntKind.u32.wrap ((u x).tdiv 1024) = u (x >>> 10) := by
  rw [IntWalk.u32_quo _ _ ⟨(u_bd x).1, by have := u_bd x; omega, by decide⟩, u_shr10]
end Go.Proofs.YtlocgfekgbdlmaaDoor

/- LAYER 1's DOCUMENT (chittyref01): the primes by trying, walked. -/
namespace Go.Proofs.YtlocgfekgbdlmaaDoor
open Go.RowKit

/-- None of the numbers from 2 to below d divides n. -/
def sieve (n d : Nat) : Bool := (List.range d).all fun x => decide (x < 2) || decide (n % x ≠ 0)
theorem sieve_two (n : Nat) : sieve n 2 = true := rfl
theorem sieve_succ (n d : Nat) (h : 2 ≤ d) : sieve n (d + 1) = (sieve n d && decide (n % d ≠ 0)) := by
  unfold sieve
  rw [List.range_succ, List.all_append]
  simp [show ¬ d < 2 by omega]
def isP (n : Nat) : Bool := sieve n n
/-- How many primes there are from 2 to below n. -/
def cnt : Nat → Nat
  | 0 => 0
  | n + 1 => cnt n + if 2 ≤ n ∧ isP n = true then 1 else 0
theorem cnt_mono (a b : Nat) (h : a ≤ b) : cnt a ≤ cnt b := by
  induction h with
  | refl => exact Nat.le_refl _
  | step _ ih => exact Nat.le_trans ih (by rw [cnt]; omega)
theorem cnt_step (n : Nat) (h : 2 ≤ n) (hp : isP n = true) : cnt (n + 1) = cnt n + 1 := by rw [cnt, if_pos ⟨h, hp⟩]
theorem cnt_stay (n : Nat) (hp : isP n = false) : cnt (n + 1) = cnt n := by rw [cnt, if_neg (by simp [hp])]; rfl

/-- The rest of the way to prime P, number i of all. -/
structure Way (P i n : Nat) (j : Int) : Prop where
  two : 2 ≤ n
  le : n ≤ P
  left : j = (i : Int) - cnt n
theorem Way.pos {P i n : Nat} {j : Int} (h : Way P i n j) (hc : cnt P = i) : 0 ≤ j ∧ j ≤ i := by
  have := cnt_mono n P h.le
  have := h.left
  omega
theorem Way.next {P i n : Nat} {j : Int} (h : Way P i n j) (hp : isP P = true) (hn : isP n = false) : Way P i (n + 1) j := by
  refine ⟨by have := h.two; omega, ?_, by rw [cnt_stay n hn]; exact h.left⟩
  have := h.le
  by_cases e : n = P
  · subst e; rw [hp] at hn; cases hn
  · omega
theorem Way.take {P i n : Nat} {j : Int} (h : Way P i n j) (hc : cnt P = i) (hn : isP n = true) (hj : j ≠ 0) : Way P i (n + 1) (j - 1) := by
  have h2 := h.two
  have hl := h.left
  refine ⟨by omega, ?_, by rw [cnt_step n h2 hn]; omega⟩
  have := h.le
  by_cases e : n = P
  · subst e; omega
  · omega
theorem Way.there {P i n : Nat} {j : Int} (h : Way P i n j) (hc : cnt P = i) (hn : isP n = true) (hj : j = 0) : n = P := by
  have h2 := h.two
  have hl := h.left
  have hle := h.le
  have hs := cnt_step n h2 hn
  by_cases e : n = P
  · exact e
  · have := cnt_mono (n + 1) P (by omega)
    omega
theorem rem_test (n d : Nat) : (((n : Int) % (d : Int)) == 0) = !decide (n % d ≠ 0) := by
  by_cases h : n % d = 0
  · have : ((n : Int) % d) = 0 := by exact_mod_cast h
    simp [h, this]
  · have : ((n : Int) % d) ≠ 0 := by exact_mod_cast h
    simp [h, this]
theorem cnt_le (n : Nat) : cnt n ≤ n := by
  induction n with
  | zero => exact Nat.le_refl _
  | succ n ih => rw [cnt]; split <;> omega
/-- The round's own loop: whether n is a prime. -/
def isV (n d : Nat) : Value := .bool (sieve n d)
end Go.Proofs.YtlocgfekgbdlmaaDoor

/- LAYER 1's DOCUMENT (chittyref01): roots by trying, over digits of 16 bits, walked. -/
namespace Go.Proofs.YtlocgfekgbdlmaaDoor
open Go.RowKit

def digitsL (x : Int) : List Int := [x % 65536, x / 65536 % 65536, x / 65536 / 65536]
/-- Which of two numbers is above, from digit k down: k is one more than the digit. -/
def aboveL (a b : List Int) : Nat → Bool
  | 0 => false
  | k + 1 => if a.getD k 0 ≠ b.getD k 0 then decide (b.getD k 0 < a.getD k 0) else aboveL a b k
theorem aboveL_succ (a b : List Int) (k : Nat) : aboveL a b (k + 1) = if a.getD k 0 ≠ b.getD k 0 then decide (b.getD k 0 < a.getD k 0) else aboveL a b k := rfl
end Go.Proofs.YtlocgfekgbdlmaaDoor

/- LAYER 1's DOCUMENT (chittyref01): the product of two numbers as digits, walked. -/
namespace Go.Proofs.YtlocgfekgbdlmaaDoor
open Go.RowKit
theorem infoInt : (Tryd.prog.info? 3).map (fun i => (i.zero, i.size, i.bytes)) = some (some (.int .i64 0), 1, 8) := by kernel_rfl
theorem row_made {w : World} {g n : Nat} (h : w.ownsRow g 3 1 (.slice (some ⟨g, 0, none⟩) n n) n (madeCells (Value.int .i64 0).cells (n * 1)).toList) : Row w g 3 (ints (List.replicate n 0)) := by
  rcases h.2 with ⟨h1, _⟩ | ⟨g', cap', cur, hv, _, hg, _, _, hs, htake⟩
  · cases h1
  · injection hv with h1 h2 h3
    injection h1 with h1
    injection h1 with h1
    subst h1
    subst h3
    unfold Row ints
    rw [hg, List.map_replicate]
    have e : cur.toList = List.replicate n (Value.int .i64 0) := by
      rw [show cur.toList = cur.toList.take (n * 1) from by rw [List.take_of_length_le (by simp [hs])], htake]
      show (madeCells #[Value.int .i64 0] (n * 1)).toList = _
      rw [toList_madeCells_one, Nat.mul_one]
    rw [← e]
def mul1 (out : List Int) (p : Nat) (x y : Int) : List Int :=
  (out.set p (wrap64 (out.getD p 0 + (wrap64 (x * y)).tmod 65536))).set (p + 1) (wrap64 (out.getD (p + 1) 0 + wrap64 ((wrap64 (x * y)).tdiv 65536)))
def rowL (x : Int) (b out : List Int) (i : Nat) : Nat → List Int
  | 0 => out
  | k + 1 => mul1 (rowL x b out i k) (i + k) x (b.getD k 0)
def outL (a b : List Int) : Nat → List Int
  | 0 => List.replicate (a.length + b.length) 0
  | i + 1 => rowL (a.getD i 0) b (outL a b i) i b.length
theorem len_mul1 (out : List Int) (p : Nat) (x y : Int) : (mul1 out p x y).length = out.length := by unfold mul1; simp
theorem len_rowL (x : Int) (b out : List Int) (i k : Nat) : (rowL x b out i k).length = out.length := by
  induction k with
  | zero => rfl
  | succ k ih => rw [rowL, len_mul1, ih]
theorem len_outL (a b : List Int) (i : Nat) : (outL a b i).length = a.length + b.length := by
  induction i with
  | zero => simp [outL]
  | succ i ih => rw [outL, len_rowL, ih]
def car1 (out : List Int) (i : Nat) : List Int :=
  if i + 1 < out.length then (out.set (i + 1) (wrap64 (out.getD (i + 1) 0 + wrap64 ((out.getD i 0).tdiv 65536)))).set i ((out.getD i 0).tmod 65536) else out
def carL (out : List Int) : Nat → List Int
  | 0 => out
  | i + 1 => car1 (carL out i) i
theorem len_carL (out : List Int) (i : Nat) : (carL out i).length = out.length := by
  induction i with
  | zero => rfl
  | succ i ih => rw [carL, car1]; split <;> simp [ih]
def timesL (a b : List Int) : List Int := carL (outL a b a.length) (a.length + b.length)
end Go.Proofs.YtlocgfekgbdlmaaDoor

/- LAYER 1 DOCUMENT (chittyref01): the root by trying, walked. -/
namespace Go.Proofs.YtlocgfekgbdlmaaDoor
open Go.RowKit
def mostL (p : Int) (q : Nat) : List Int := List.replicate (2 * q) 0 ++ [p]
/-- A square, or a cube, as digits. -/
def powL (t : Int) (q : Nat) : List Int := if q = 3 then timesL (timesL (digitsL t) (digitsL t)) (digitsL t) else timesL (digitsL t) (digitsL t)
def rootStep (p : Int) (q : Nat) (r : Int) (b : Nat) : Int :=
  if 137438953472 ≤ r + 2 ^ b then r
  else if aboveL (powL (r + 2 ^ b) q) (mostL p q) ((powL (r + 2 ^ b) q).length + (mostL p q).length + 1) then r else r + 2 ^ b
/-- What stands after the bits from 37 down to k. -/
def rootK (p : Int) (q : Nat) : Nat → Int
  | 0 => 0
  | j + 1 => rootStep p q (rootK p q j) (37 - j)
theorem length_timesL (a b : List Int) : (timesL a b).length = a.length + b.length := by unfold timesL; rw [len_carL, len_outL]
theorem length_digitsL (x : Int) : (digitsL x).length = 3 := rfl
theorem pow37 (b : Nat) (h : b ≤ 37) : 0 < (2 : Int) ^ b ∧ (2 : Int) ^ b ≤ 137438953472 := by
  have h1 : (2 : Nat) ^ b ≤ 2 ^ 37 := Nat.pow_le_pow_right (by decide) h
  have h2 : 0 < (2 : Nat) ^ b := Nat.two_pow_pos b
  have e : ((2 ^ b : Nat) : Int) = (2 : Int) ^ b := Int.natCast_pow 2 b
  have e2 : (2 : Nat) ^ 37 = 137438953472 := by decide
  omega
theorem rootK_bd (p : Int) (q k : Nat) : 0 ≤ rootK p q k ∧ rootK p q k < 137438953472 := by
  induction k with
  | zero => rw [rootK]; omega
  | succ k ih =>
    have := pow37 (37 - k) (by omega)
    rw [rootK, rootStep]
    split
    · exact ih
    · split <;> omega
end Go.Proofs.YtlocgfekgbdlmaaDoor
