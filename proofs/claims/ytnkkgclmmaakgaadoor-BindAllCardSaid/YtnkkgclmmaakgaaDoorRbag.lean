/- Texts of this claim, one behind the other. -/
import Derived.Test.YtnkkgclmmaakgaaDoorRbaf
import Derived.Test.YtnkkgclmmaakgaaDoorRbaa
import Derived.Test.YtnkkgclmmaakgaaDoorRbae
import Derived.StillTailTactics
/- LAYER 3: package digest's Of. -/
namespace Go.Proofs.YtnkkgclmmaakgaaDoor
set_option maxRecDepth 100000
open Go Go.RowKit

/-- A part: where its bytes lie, its room, its bytes. -/
abbrev Part := Option Addr × Nat × List UInt8
def partV (p : Part) : Value := .slice p.1 p.2.2.length p.2.1
/-- The slice value '.slice A (length of ps) c' holds the parts ps: nil let in. -/
structure Parts (w : World) (A : Option Addr) (c : Nat) (ps : List Part) : Prop where
  sl : Sl w A c (ps.map partV)
  each : ∀ p ∈ ps, Sl w p.1 p.2.1 (byts p.2.2)
def flat (ps : List Part) : List UInt8 := ps.flatMap (·.2.2)
theorem Parts.later {w w' : World} {A : Option Addr} {c : Nat} {ps : List Part} {B : Nat} (h : Parts w A c ps) (hB : w.heap.size ≤ B) (hb : Below B w w') : Parts w' A c ps :=
  ⟨h.sl.later hB hb, fun p hp => (h.each p hp).later hB hb⟩
theorem flat_succ (ps : List Part) (k : Nat) (h : k < ps.length) : flat (ps.take (k + 1)) = flat (ps.take k) ++ ps[k].2.2 := by
  unfold flat
  rw [List.take_add_one, List.flatMap_append]
  simp [h]
theorem flat_all (ps : List Part) (k : Nat) (h : ps.length ≤ k) : flat (ps.take k) = flat ps := by rw [List.take_of_length_le h]
theorem flat_le (ps : List Part) (k : Nat) : (flat (ps.take k)).length ≤ (flat ps).length := by
  have e : flat ps = flat (ps.take k) ++ flat (ps.drop k) := by unfold flat; rw [← List.flatMap_append, List.take_append_drop]
  rw [e, List.length_append]; omega
/-- What a slice of the call's own parts holds, one part at a time. -/
theorem Parts.get {w : World} {b o c : Nat} {ps : List Part} (h : Parts w (some ⟨b, o, none⟩) c ps) (k : Nat) (hk : k < ps.length) : w.cell? ⟨b, o + k, none⟩ = some (partV ps[k]) := by
  obtain ⟨b', o', he, _, hc⟩ := h.sl.rd.get (i := k) (by rw [List.length_map]; exact hk)
  cases he
  rw [hc, List.getElem?_map, List.getElem?_eq_getElem hk]; rfl
theorem store_tag {l : List UInt8} : (byts (shaL l)).length = 32 := by rw [length_byts]; rfl
set_option maxRecDepth 100000 in
set_option maxHeartbeats 1000000 in
theorem of_some (b o c : Nat) (ps : List Part) (w : World) (hT : Tabs w) (hp : Parts w (some ⟨b, o, none⟩) c ps) (hm : (flat ps).length ≤ 2305843009213693952) (hpl : ps.length ≤ 9223372036854775807) :
    Calls Tryd.prog 61 #[.slice (some ⟨b, o, none⟩) ps.length c] w fun e w' => e = .returned (.agg (byts (shaL (flat ps))).toArray) ∧ Below w.heap.size w w' := by
  go_enter Tryd.func61, Tryd.ntmps61
  go_wp2_with (go_at_call 62; refine (new_any _ (hT.later ((Below.refl _ _).alloc (Nat.le_refl _) _) (Nat.le_refl _))).mono ?_; rintro e w1 ⟨g, rfl, hg1, hd1, hb1⟩; have hbA : Below w.heap.size w w1 := ((Below.refl _ _).alloc (Nat.le_refl _) _).trans (hb1.mono (by rw [World.size_alloc]; omega)); have r0 := (Row.new w 23 (List.replicate 32 (.int .u8 0))).later hb1 (Row.new w 23 (List.replicate 32 (.int .u8 0))).lt; rw [World.size_alloc] at hg1; clear hb1)
  go_loopw [9] (fun i wr => ∃ k : Nat, k ≤ ps.length ∧ i = .int .i64 k ∧ Dgt wr g (flat (ps.take k)) ∧ Row wr w.heap.size 23 (List.replicate 32 (.int .u8 0)) ∧ Below w.heap.size w wr) (fun i _ => ps.length - (intOf i).toNat)
  case atStart => exact ⟨0, by omega, rfl, hd1, r0, hbA⟩
  case round =>
    clear hd1 r0 hbA
    obtain ⟨k, hk, rfl, hd, r0, hb⟩ := hrel
    by_cases hlt : k < ps.length
    · have hps := hp.later (Nat.le_refl _) hb
      have hck := hps.get k hlt
      have hsk := hps.each ps[k] (List.getElem_mem hlt)
      have hsw := hp.each ps[k] (List.getElem_mem hlt)
      have HF := Lib.hid (flat_succ ps k hlt)
      have hfl := flat_le ps (k + 1)
      rw [HF.out, List.length_append] at hfl
      unfold partV at hck
      obtain ⟨⟨Ak, ck, lk⟩, hpk⟩ : ∃ p, p = ps[k] := ⟨_, rfl⟩
      rw [← hpk] at hck hsk hsw HF hfl
      dsimp only at hck hsk hsw HF hfl
      have hml : (flat (ps.take k)).length + lk.length ≤ 4611686018427387904 := by omega
      clear hpk hps hfl
      go_wp2_with (go_at_call 52; refine (write_any g (flat (ps.take k)) lk Ak ck _ (hT.cu.later hb (Nat.le_refl _)) hd hsk (fun h a ha => by have := hsw.block_lt (by rw [length_byts]; exact h) ha; omega) hml).mono ?_; rintro e w3 ⟨rfl, hd3, hg3⟩)
      have hb3 := hb.grown hg3 hb.size (fun k h => by cases h; omega)
      have r3 := r0.grown hg3 (by omega)
      clear hd hb r0 hg3 hck hsk hsw
      go_roundw
      case rel => exact ⟨k + 1, by omega, by go_num, by rw [HF.out]; exact hd3, r3, hb3⟩
      case measure => simp [intOf]; omega
    · rw [flat_all ps k (by omega)] at hd
      have hC := hT.cu.later hb (Nat.le_refl _)
      obtain ⟨V, hVq⟩ : ∃ V, V = byts (shaL (flat ps)) := ⟨_, rfl⟩
      have hsum := Lib.hid (show Calls Tryd.prog 53 #[.pointer (some ⟨g, 0, none⟩)] wr fun e w' => e = .returned (.agg V.toArray) ∧ Below wr.heap.size wr w' by rw [hVq]; exact sum_any g (flat ps) wr hC hd hm)
      have hVl : V.length = 32 := by rw [hVq]; exact store_tag
      have hone := Lib.hid (all_one (show ∀ v ∈ V, v.oneCell' = true by rw [hVq]; exact byts_one _))
      have hsz := Lib.hid (show (Tryd.prog.info? 23).map (·.size) = some V.toArray.size by rw [size_tag, List.size_toArray, hVl])
      have hszo := Lib.hid (show (List.replicate 32 (Value.int .u8 0)).toArray.size = V.toArray.size by rw [List.size_toArray, List.size_toArray, List.length_replicate, hVl])
      have HV := Lib.hid hVq
      clear hVq hVl hC hd
      go_wp2_with (first
        | (go_at_call 53; refine hsum.out.mono ?_; rintro e w3 ⟨rfl, hb3⟩; have R0 := Lib.hid (show w3.heap[w.heap.size]? = some (.cells (List.replicate 32 (Value.int .u8 0)).toArray 23 (0, 0)) from r0.later hb3 r0.lt))
        | ((with_reducible refine wpList_store_row rfl 23 (.tmp 2) (.tmp 18) rfl w.heap.size V.toArray rfl rfl 23 _ R0.out hsz.out hszo.out hone.out ?_); have HG := Lib.hid (setRow_heap w3 w.heap.size _ V.toArray 23 (0, 0) R0.out))
        | (with_reducible refine bodyPost_ret (results_cell_row rfl _ _ w.heap.size 23 V.toArray (0, 0) (.array 32 5) rfl HG.out Tryd.underlying23 rfl hsz.out) rfl ?_))
      exact ⟨by rw [HV.out], below_setRow (hb.trans (hb3.mono hb.size)) (Nat.le_refl _) _⟩
set_option maxRecDepth 100000 in
set_option maxHeartbeats 1000000 in
theorem of_nil (A : Option Addr) (c : Nat) (w : World) (hT : Tabs w) :
    Calls Tryd.prog 61 #[.slice A 0 c] w fun e w' => e = .returned (.agg (byts (shaL [])).toArray) ∧ Below w.heap.size w w' := by
  go_enter Tryd.func61, Tryd.ntmps61
  go_wp2_with (go_at_call 62; refine (new_any _ (hT.later ((Below.refl _ _).alloc (Nat.le_refl _) _) (Nat.le_refl _))).mono ?_; rintro e w1 ⟨g, rfl, hg1, hd1, hb1⟩; have hbA : Below w.heap.size w w1 := ((Below.refl _ _).alloc (Nat.le_refl _) _).trans (hb1.mono (by rw [World.size_alloc]; omega)); have r0 := (Row.new w 23 (List.replicate 32 (.int .u8 0))).later hb1 (Row.new w 23 (List.replicate 32 (.int .u8 0))).lt; rw [World.size_alloc] at hg1; clear hb1)
  go_loopw [9] (fun i wr => i = .int .i64 0 ∧ Dgt wr g [] ∧ Row wr w.heap.size 23 (List.replicate 32 (.int .u8 0)) ∧ Below w.heap.size w wr) (fun i _ => 0 - (intOf i).toNat)
  case atStart => exact ⟨rfl, hd1, r0, hbA⟩
  case round =>
      clear hd1 r0 hbA
      obtain ⟨rfl, hd, r0, hb⟩ := hrel
      have hC := hT.cu.later hb (Nat.le_refl _)
      obtain ⟨V, hVq⟩ : ∃ V, V = byts (shaL []) := ⟨_, rfl⟩
      have hsum := Lib.hid (show Calls Tryd.prog 53 #[.pointer (some ⟨g, 0, none⟩)] wr fun e w' => e = .returned (.agg V.toArray) ∧ Below wr.heap.size wr w' by rw [hVq]; exact sum_any g [] wr hC hd (by simp))
      have hVl : V.length = 32 := by rw [hVq]; exact store_tag
      have hone := Lib.hid (all_one (show ∀ v ∈ V, v.oneCell' = true by rw [hVq]; exact byts_one _))
      have hsz := Lib.hid (show (Tryd.prog.info? 23).map (·.size) = some V.toArray.size by rw [size_tag, List.size_toArray, hVl])
      have hszo := Lib.hid (show (List.replicate 32 (Value.int .u8 0)).toArray.size = V.toArray.size by rw [List.size_toArray, List.size_toArray, List.length_replicate, hVl])
      have HV := Lib.hid hVq
      clear hVq hVl hC hd
      go_wp2_with (first
        | (go_at_call 53; refine hsum.out.mono ?_; rintro e w3 ⟨rfl, hb3⟩; have R0 := Lib.hid (show w3.heap[w.heap.size]? = some (.cells (List.replicate 32 (Value.int .u8 0)).toArray 23 (0, 0)) from r0.later hb3 r0.lt))
        | ((with_reducible refine wpList_store_row rfl 23 (.tmp 2) (.tmp 18) rfl w.heap.size V.toArray rfl rfl 23 _ R0.out hsz.out hszo.out hone.out ?_); have HG := Lib.hid (setRow_heap w3 w.heap.size _ V.toArray 23 (0, 0) R0.out))
        | (with_reducible refine bodyPost_ret (results_cell_row rfl _ _ w.heap.size 23 V.toArray (0, 0) (.array 32 5) rfl HG.out Tryd.underlying23 rfl hsz.out) rfl ?_))
      exact ⟨by rw [HV.out], below_setRow (hb.trans (hb3.mono hb.size)) (Nat.le_refl _) _⟩
theorem of_any (A : Option Addr) (n c : Nat) (ps : List Part) (w : World) (hT : Tabs w) (hp : Parts w A c ps) (hn : n = ps.length) (hm : (flat ps).length ≤ 2305843009213693952) (hpl : ps.length ≤ 9223372036854775807) :
    Calls Tryd.prog 61 #[.slice A n c] w fun e w' => e = .returned (.agg (byts (shaL (flat ps))).toArray) ∧ Below w.heap.size w w' := by
  subst hn
  by_cases h0 : 0 < ps.length
  · obtain ⟨b, o, rfl, _⟩ := hp.sl.rd.get (i := 0) (by rw [List.length_map]; exact h0)
    exact of_some b o c ps w hT hp hm hpl
  · obtain rfl : ps = [] := List.eq_nil_of_length_eq_zero (by omega)
    exact of_nil A c w hT
end Go.Proofs.YtnkkgclmmaakgaaDoor

/- LAYER 3: what walks over digests share: parts, slices cut out of slices, rows written whole. -/
namespace Go.Proofs.YtnkkgclmmaakgaaDoor
set_option maxRecDepth 100000
open Go Go.RowKit

theorem write_at (g n : Nat) (l b : List UInt8) (A : Option Addr) (c : Nat) (w : World) (hT : Cube w) (hd : Dgt w g l) (hs : Sl w A c (byts b)) (hA : 0 < b.length → ∀ a, A = some a → a.block ≠ g) (hn : n = b.length) (hm : l.length + b.length ≤ 4611686018427387904) :
    Calls Tryd.prog 52 #[.pointer (some ⟨g, 0, none⟩), .slice A n c] w fun e w' => e = .returned (.tuple #[]) ∧ Dgt w' g (l ++ b) ∧ w.grownBy w' (some g) := by
  subst hn
  exact write_any g l b A c w hT hd hs hA hm
/-- A part alone, in a list of its own. -/
theorem parts_one {w : World} {A : Option Addr} {c : Nat} {l : List UInt8} (h : Sl w A c (byts l)) : Parts (w.alloc (.cells #[.slice A l.length c] 53)) (some ⟨w.heap.size, 0, none⟩) 1 [(A, c, l)] := by
  have r := Row.new w 53 [.slice A l.length c]
  refine ⟨⟨Rd.row (ys := []) (by rw [List.append_nil]; exact r), by simp, fun h => by cases h⟩, fun p hp => ?_⟩
  obtain rfl : p = (A, c, l) := by simpa using hp
  exact h.later (Nat.le_refl _) ((Below.refl _ w).alloc (Nat.le_refl _) _)
theorem flat_one (A : Option Addr) (c : Nat) (l : List UInt8) : flat [(A, c, l)] = l := by unfold flat; simp
theorem index_parts (A : Option Addr) (b o n c k : Nat) (hA : A = some ⟨b, o, none⟩) (hk : k < n) (w : World) :
    (Instr.indexAt 70 (.slice A n c) (.int .i64 k)).run Tryd.prog w = .ok (.pointer (some ⟨b, o + k, none⟩)) w := by
  subst hA
  have h : (k : Int) < (n : Int) := by omega
  go_simp
end Go.Proofs.YtnkkgclmmaakgaaDoor

/- LAYER 4: HMAC as a list function; package hmac's whole and begun. -/
namespace Go.Proofs.YtnkkgclmmaakgaaDoor
set_option maxRecDepth 100000
open Go Go.RowKit

/-- A key as 64 bytes. -/
def shortL (k : List UInt8) : List UInt8 := if k.length ≤ 64 then k else shaL k
def keyL (k : List UInt8) : List UInt8 := shortL k ++ List.replicate (64 - (shortL k).length) 0
def xorL (x : UInt8) (l : List UInt8) : List UInt8 := l.map (· ^^^ x)
/-- HMAC of SHA-256. -/
def macL (k l : List UInt8) : List UInt8 := shaL (xorL 92 (keyL k) ++ shaL (xorL 54 (keyL k) ++ l))
theorem length_shortL (k : List UInt8) : (shortL k).length ≤ 64 := by
  unfold shortL
  split
  · assumption
  · rw [length_shaL]; omega
theorem length_keyL (k : List UInt8) : (keyL k).length = 64 := by
  unfold keyL
  have := length_shortL k
  rw [List.length_append, List.length_replicate]; omega
theorem length_xorL (x : UInt8) (l : List UInt8) : (xorL x l).length = l.length := by unfold xorL; simp
theorem length_macL (k l : List UInt8) : (macL k l).length = 32 := length_shaL _
/-- Bytes laid over 64 bytes 0. -/
theorem splice_zeros (s : List UInt8) : splice (List.replicate 64 (Value.int .u8 0)) 0 (byts s) = byts (s ++ List.replicate (64 - s.length) 0) := by
  unfold splice
  rw [List.take_zero, List.nil_append, Nat.zero_add, List.drop_replicate, byts_append, byts_zeros, length_byts]
theorem size_blk : (Tryd.prog.info? 81).map (·.size) = some 64 := by kernel_rfl
theorem parts_two {w : World} {A : Option Addr} {c : Nat} {l : List UInt8} (h : Sl w A c (byts l)) (X Y : Obj) : Parts (((w.alloc X).alloc Y).alloc (.cells #[.slice A l.length c] 53)) (some ⟨w.heap.size + 1 + 1, 0, none⟩) 1 [(A, c, l)] := by
  have h := parts_one (h.later (Nat.le_refl _) (below_two w X Y))
  rw [World.size_alloc, World.size_alloc] at h
  exact h
theorem getD_split (x : UInt8) (k : List UInt8) (j : Nat) (h : j < k.length) : (xorL x (k.take j) ++ k.drop j).getD j 0 = k.getD j 0 := by
  have hl : (xorL x (k.take j)).length = j := by rw [length_xorL, List.length_take]; omega
  rw [List.getD_eq_getElem?_getD, List.getElem?_append_right (by omega), hl, Nat.sub_self, List.getElem?_drop, Nat.add_zero, List.getD_eq_getElem?_getD]
theorem xor_succ (x : UInt8) (k : List UInt8) (j : Nat) (h : j < k.length) : (xorL x (k.take j) ++ k.drop j).set j (k.getD j 0 ^^^ x) = xorL x (k.take (j + 1)) ++ k.drop (j + 1) := by
  have hl : (xorL x (k.take j)).length = j := by rw [length_xorL, List.length_take]; omega
  have e : k.take (j + 1) = k.take j ++ [k[j]] := by rw [List.take_add_one]; simp [h]
  have g : k.getD j 0 = k[j] := by simp [h]
  rw [List.set_append_right _ _ (by omega), hl, Nat.sub_self, List.drop_eq_getElem_cons h, List.set_cons_zero, e, g]
  unfold xorL
  rw [List.map_append, List.append_assoc]
  rfl
set_option maxRecDepth 100000 in
set_option maxHeartbeats 1000000 in
theorem whole_any (A : Option Addr) (n c : Nat) (k : List UInt8) (w : World) (hT : Tabs w) (hs : Sl w A c (byts k)) (hn : n = k.length) (hm : k.length ≤ 2305843009213693952) :
    Calls Tryd.prog 50 #[.slice A n c] w fun e w' => e = .returned (.agg (byts (keyL k)).toArray) ∧ Below w.heap.size w w' := by
  subst hn
  obtain ⟨V, hVq⟩ : ∃ V, V = byts (keyL k) := ⟨_, rfl⟩
  have hVl : V.length = 64 := by rw [hVq, length_byts, length_keyL]
  have hone := Lib.hid (all_one (show ∀ v ∈ V, v.oneCell' = true by rw [hVq]; exact byts_one _))
  have hsz := Lib.hid (show (Tryd.prog.info? 81).map (·.size) = some V.toArray.size by rw [size_blk, List.size_toArray, hVl])
  have hszo := Lib.hid (show (List.replicate 64 (Value.int .u8 0)).toArray.size = V.toArray.size by rw [List.size_toArray, List.size_toArray, List.length_replicate, hVl])
  have HV := Lib.hid hVq
  by_cases h64 : k.length ≤ 64
  · have HSP := Lib.hid (show splice (List.replicate 64 (Value.int .u8 0)) 0 (byts k) = V by rw [hVq, splice_zeros]; unfold keyL shortL; rw [if_pos h64])
    have hcl : (byts k).length = Nat.min k.length 64 := by rw [length_byts]; show _ = min _ _; omega
    have hle := Lib.hid (show (byts k).length ≤ 64 by rw [length_byts]; exact h64)
    clear hVq hVl
    go_enter Tryd.func50, Tryd.ntmps50
    go_wp2_with (first
      | ((with_reducible refine wpList_copy_splice rfl (.tmp 8) (.tmp 9) 53 53 rfl 5 Tryd.underlying53 sizeByte _ _ _ _ _ _ rfl rfl (w.heap.size + 1) 0 _ _ (heap_alloc2_new w _ _) (byts k) hcl (fun h => ⟨rfl, (hs.later (Nat.le_refl _) (below_two w _ _)).hpos h⟩) (by simpa using hle.out) (byts_one _) (w.heap.size + 1) _ (Below.refl _ _) (Nat.le_refl _) ?_); intro w2 HG2 hB2; have R1 := Lib.hid (show w2.heap[w.heap.size + 1]? = some (.cells V.toArray 81 (0, 0)) by rw [← HSP.out]; exact HG2.out); have R0 := Lib.hid (show w2.heap[w.heap.size]? = some (.cells (List.replicate 64 (Value.int .u8 0)).toArray 81 (0, 0)) from (hB2.block _ (by omega)).trans (heap_alloc2_old w _ _)); have hb2 := (below_two w _ _).trans (hB2.mono (by omega)); clear HG2 hB2)
      | (with_reducible refine wpList_load_row rfl 81 (.tmp 3) rfl (w.heap.size + 1) rfl 81 V.toArray (0, 0) (.array 64 5) R1.out Tryd.underlying81 rfl hsz.out ?_)
      | ((with_reducible refine wpList_store_row rfl 81 (.tmp 2) (.tmp 11) rfl w.heap.size V.toArray rfl rfl 81 _ R0.out hsz.out hszo.out hone.out ?_); have HG := Lib.hid (setRow_heap w2 w.heap.size _ V.toArray 81 (0, 0) R0.out))
      | (with_reducible refine bodyPost_ret (results_cell_row rfl _ _ w.heap.size 81 V.toArray (0, 0) (.array 64 5) rfl HG.out Tryd.underlying81 rfl hsz.out) rfl ?_))
    exact ⟨by rw [HV.out], below_setRow hb2 (Nat.le_refl _) _⟩
  · have HSP := Lib.hid (show splice (List.replicate 64 (Value.int .u8 0)) 0 (byts (shaL k)) = V by rw [hVq, splice_zeros]; unfold keyL shortL; rw [if_neg h64])
    obtain ⟨X, hX⟩ : ∃ X, X = byts (shaL k) := ⟨_, rfl⟩
    have hXl : X.length = 32 := by rw [hX]; exact store_tag
    have honeX := Lib.hid (all_one (show ∀ v ∈ X, v.oneCell' = true by rw [hX]; exact byts_one _))
    have hszX := Lib.hid (show (Tryd.prog.info? 23).map (·.size) = some X.toArray.size by rw [size_tag, List.size_toArray, hXl])
    have h32 := Lib.hid (show 32 = X.toArray.size by rw [List.size_toArray, hXl])
    have HX := Lib.hid hX
    clear hVq hVl hX hXl
    go_enter Tryd.func50, Tryd.ntmps50
    go_wp2_with (first
      | (go_at_call 61; refine (of_any _ 1 1 [(A, c, k)] _ (hT.later ((below_two w _ _).alloc (by rw [World.size_alloc, World.size_alloc]; omega) _) (Nat.le_refl _)) (parts_two hs _ _) rfl (by rw [flat_one]; exact hm) (by simp)).mono ?_; rintro e w3 ⟨rfl, hb3⟩; rw [flat_one, ← HX.out]; obtain ⟨e0, e1, hbA, hz3⟩ := three_later hb3; have r0 : Row w3 w.heap.size 81 (List.replicate 64 (.int .u8 0)) := e0; have r1 : Row w3 (w.heap.size + 1) 81 (List.replicate 64 (.int .u8 0)) := e1; clear e0 e1 hb3)
      | (with_reducible refine wpList_store_row rfl 23 (.tmp 4) (.tmp 14) rfl w3.heap.size X.toArray rfl rfl 23 _ (heap_alloc_new w3 _) hszX.out (Eq.trans (by kernel_rfl) h32.out) honeX.out ?_; refine Hid.out ?_))
    refine Lib.hid ?_
    generalize hw4 : World.setRow _ _ _ = w4
    obtain ⟨r4, hb4⟩ := row_new_set (xs := X) hw4
    rw [HX.out] at r4
    have r0 := r0.later hb4 r0.lt
    have r1 := r1.later hb4 r1.lt
    have hbB := hbA.trans (hb4.mono hbA.size)
    have hsum : Sl w4 (some ⟨w3.heap.size, 0, none⟩) 32 (byts (shaL k)) := ⟨Rd.row (ys := []) (by rw [List.append_nil]; exact r4), by rw [store_tag]; exact Nat.le_refl _, fun h => by cases h⟩
    have hsum := hsum.later (Nat.le_refl _) ((Below.refl w4.heap.size w4).drew)
    have R1 := Lib.hid (show w4.drew.heap[w.heap.size + 1]? = some (.cells (List.replicate 64 (Value.int .u8 0)).toArray 81 (0, 0)) from r1)
    clear hw4 r4 hb4 hbA r1
    go_wp2_with fail
    refine wp_region_noPanic ?_
    refine wp_region_held_drew (S := fun _ => True) (by kernel_rfl) (trivial) (fun hHeld => ?_)
    refine rt 0 15 hHeld ?_
    refine rt 1 16 hHeld ?_
    refine rc1 2 fun K hK => ?_
    refine step_copy_row (some 17) rfl (by rfl) (.tmp 15) (.tmp 16) 53 53 rfl 5 Tryd.underlying53 sizeByte (w.heap.size + 1) 0 64 64 _ 32 32 rfl rfl 81 _ (show Row _ _ _ _ from R1.out) (byts (shaL k)) 32 store_tag (by decide) hsum.rd.at_add (by rw [store_tag, List.length_replicate]; decide) (byts_one _) ?_; intro w6 hr6 hg6
    refine rk hK (trivial) fun _ => ?_
    clear hK K
    refine wpAnyH_done (by kernel_rfl) ?_ _
    refine NoPanic.normal ?_
    rw [HSP.out] at hr6
    have R0 := Lib.hid (show w6.heap[w.heap.size]? = some (.cells (List.replicate 64 (Value.int .u8 0)).toArray 81 (0, 0)) from r0.drew.grown hg6 (by omega))
    have R1 := Lib.hid (show w6.heap[w.heap.size + 1]? = some (.cells V.toArray 81 (0, 0)) from hr6)
    have hb6 := hbB.drew.grown hg6 hbB.size (fun k h => by cases h; omega)
    clear hr6 hg6 hbB r0 hsum hHeld
    go_wp2_with (first
      | (with_reducible refine wpList_load_row rfl 81 (.tmp 3) rfl (w.heap.size + 1) rfl 81 V.toArray (0, 0) (.array 64 5) R1.out Tryd.underlying81 rfl hsz.out ?_)
      | ((with_reducible refine wpList_store_row rfl 81 (.tmp 2) (.tmp 18) rfl w.heap.size V.toArray rfl rfl 81 _ R0.out hsz.out hszo.out hone.out ?_); have HG := Lib.hid (setRow_heap w6 w.heap.size _ V.toArray 81 (0, 0) R0.out))
      | (with_reducible refine bodyPost_ret (results_cell_row rfl _ _ w.heap.size 81 V.toArray (0, 0) (.array 64 5) rfl HG.out Tryd.underlying81 rfl hsz.out) rfl ?_))
    exact ⟨by rw [HV.out], below_setRow hb6 (Nat.le_refl _) _⟩
set_option maxRecDepth 100000 in
set_option maxHeartbeats 1000000 in
theorem begun_any (k : List UInt8) (hk : k.length = 64) (x : UInt8) (w : World) (hT : Tabs w) :
    Calls Tryd.prog 51 #[.agg (byts k).toArray, .int .u8 (x.toNat : Int)] w (GaveDig (xorL x k) w) := by
  go_enter Tryd.func51, Tryd.ntmps51
  go_wp2
  go_loopw [7] (fun i wr => ∃ j : Nat, j ≤ 64 ∧ i = .int .i64 j ∧ Row wr w.heap.size 81 (byts (xorL x (k.take j) ++ k.drop j)) ∧ Below w.heap.size w wr) (fun i _ => 64 - (intOf i).toNat)
  case atStart => exact ⟨0, by omega, rfl, by simpa [xorL] using Row.new w 81 (byts k), (Below.refl _ w).alloc (Nat.le_refl _) _⟩
  case round =>
    obtain ⟨j, hj, rfl, hrow, hb⟩ := hrel
    by_cases hlt : j < 64
    · have hl : (xorL x (k.take j) ++ k.drop j).length = 64 := by rw [List.length_append, length_xorL, List.length_take, List.length_drop]; omega
      have HS := Lib.hid (xor_succ x k j (by omega))
      have hc : wr.cell? ⟨w.heap.size, j, none⟩ = some (.int .u8 ((k.getD j 0).toNat : Int)) := by
        rw [hrow.cell, get_byts _ _ (by omega), getD_split x k j (by omega)]
      have hfr := hrow.free j
      have hx := byte_xor (k.getD j 0) x
      generalize k.getD j 0 = y at *
      go_wp2
      go_roundw
      case rel =>
        refine ⟨j + 1, by omega, by go_num, ?_, hb.setCell (Nat.le_refl _) _⟩
        rw [← HS.out, ← byts_set, UInt8.toNat_xor]
        exact hrow.set j _
      case measure => simp [intOf]; omega
    · have e64 : j = 64 := by omega
      have hl : (xorL x k).length = 64 := by rw [length_xorL, hk]
      have el : xorL x (k.take j) ++ k.drop j = xorL x k := by rw [List.take_of_length_le (by omega), List.drop_of_length_le (by omega), List.append_nil]
      rw [el] at hrow
      have HL := Lib.hid hl
      generalize xorL x k = m at *
      have hTr := hT.later hb (Nat.le_refl _)
      clear hT hk el hl
      go_wp2_with (first
        | (go_at_call 62; refine (new_any _ hTr).mono ?_; rintro e w1 ⟨g, rfl, hg1, hd1, hb1⟩; have hbA := hb.trans (hb1.mono hb.size); have r1 := hrow.later hb1 hrow.lt; have hC1 := hTr.cu.later hb1 (Nat.le_refl _); have hne : w.heap.size < g := Nat.lt_of_lt_of_le hrow.lt hg1; clear hb1 hb hg1)
        | (go_at_call 52; refine (write_at g 64 [] m (some ⟨w.heap.size, 0, none⟩) 64 _ hC1 hd1 ⟨Rd.row (ys := []) (by rw [List.append_nil]; exact r1), by rw [length_byts, HL.out]; exact Nat.le_refl _, fun h => by cases h⟩ (fun _ a ha => by cases ha; show w.heap.size ≠ g; omega) HL.out.symm (by rw [HL.out]; decide)).mono ?_; rintro e w3 ⟨rfl, hd3, hg3⟩))
      go_ret
      exact ⟨g, rfl, by omega, hd3, hbA.grown hg3 hbA.size (fun k h => by cases h; omega)⟩
end Go.Proofs.YtnkkgclmmaakgaaDoor

/- LAYER 2: the document's list of the numbers of the primes' roots. -/
namespace Go.Proofs.YtnkkgclmmaakgaaDoor
set_option maxRecDepth 100000
open Go.RowKit

def tabs32 (xs : List Int) : List Value := xs.map (Value.int .u32)
set_option maxRecDepth 100000 in
theorem rprimes_any (w : World) :
    Calls Tryd.prog 66 #[] w fun e w' => e = .returned (.slice (some ⟨w.heap.size, 0, none⟩) 64 64) ∧ Row w' w.heap.size 89 (tabs32 cubeT) ∧ Below w.heap.size w w' := by
  go_enter Tryd.func66, Tryd.ntmps66
  go_wp2
  go_ret
  refine ⟨rfl, heap_alloc_new w _, (Below.refl _ _).alloc (Nat.le_refl _) _⟩
theorem get_tabs32 (xs : List Int) (i : Nat) (h : i < xs.length) : (tabs32 xs)[i]? = some (.int .u32 (xs.getD i 0)) := by
  unfold tabs32; simp [h]
theorem length_cubeT : cubeT.length = 64 := rfl
theorem Row.cube {w : World} {g : Nat} {t : TypeId} (h : Row w g t (tabs32 cubeT)) (i : Nat) (hi : i < 64) : w.cell? ⟨g, i, none⟩ = some (.int .u32 (cubeT.getD i 0)) := by
  rw [h.cell, get_tabs32 _ _ (by rw [length_cubeT]; exact hi)]
end Go.Proofs.YtnkkgclmmaakgaaDoor

/- LAYER 2: the document's schedule. -/
namespace Go.Proofs.YtnkkgclmmaakgaaDoor
set_option maxRecDepth 100000
open Go.RowKit

theorem turn_two (x : BitVec 32) (n : Nat) (h : n < 32) : x >>> n ||| x <<< (32 - n) = turn x (n : Int) := by
  unfold turn
  rw [BitVec.rotateRight_def, show ((n : Int) % 32).toNat = n by omega, Nat.mod_eq_of_lt h]
theorem rturn2_any (x : BitVec 32) (n : Int) (w : World) (h0 : 0 ≤ n) (h1 : n < 32) :
    Calls Tryd.prog 67 #[.int .u32 (u x), .int .u64 n] w fun e w' => e = .returned (.int .u32 (u (turn x n))) ∧ w = w' := by
  obtain ⟨n, rfl⟩ := Int.eq_ofNat_of_zero_le h0
  have hn : IntKind.u64.wrap (32 - (n : Int)) = ((32 - n : Nat) : Int) := by rw [IntKind.wrap_u64]; omega
  have H := Lib.hid (turn_two x n (by omega))
  go_enter Tryd.func67, Tryd.ntmps67
  go_wp2
  go_ret
  refine ⟨?_, rfl⟩
  rw [← H.out]
  rfl
/-- The call gave a slice of its own that holds just these words; what was there before is as it was. -/
def GaveWords (xs : List (BitVec 32)) (w : World) (e : Ending) (w' : World) : Prop :=
  ∃ v, e = .returned v ∧ w'.ownsRow w.heap.size 89 1 v xs.length (words xs) ∧ Below w.heap.size w w'
theorem infoWord : (Tryd.prog.info? 89).map (fun i => (i.zero, i.size, i.bytes)) = some (some (.int .u32 0), 1, 4) := by kernel_rfl
theorem rget_at (A : Option Addr) (n c : Nat) (l : List UInt8) (w : World) (hl : Sl w A c (byts l)) (hn : n = l.length) :
    Calls Tryd.prog 74 #[.slice A n c] w fun e w' => e = .returned (.int .u32 (getV l)) ∧ w = w' := by
  subst hn; exact rget_any A c l w hl
theorem own_cell {w : World} {base t g n cap : Nat} {xs : List (BitVec 32)} (h : w.ownsRow base t 1 (.slice (some ⟨g, 0, none⟩) n cap) n (words xs)) (i : Nat) (hi : i < xs.length) :
    w.cell? ⟨g, i, none⟩ = some (.int .u32 (u (xs.getD i 0#32))) := by
  obtain ⟨ys, hr⟩ := Row.of_own h
  rw [hr.cell, List.getElem?_append_left (by rw [length_words]; exact hi), get_words _ _ hi]
@[go_sem] theorem u_quo10 (x : BitVec 32) : IntKind.u32.wrap ((u x).tdiv 1024) = u (x >>> 10) := by
  rw [IntWalk.u32_quo _ _ ⟨(u_bd x).1, by have := u_bd x; omega, by decide⟩, u_shr10]
@[go_sem] theorem u_quo3 (x : BitVec 32) : IntKind.u32.wrap ((u x).tdiv 8) = u (x >>> 3) := by
  rw [IntWalk.u32_quo _ _ ⟨(u_bd x).1, by have := u_bd x; omega, by decide⟩, u_shr3]
theorem small_one (x : BitVec 32) : turn x 17 ^^^ turn x 19 ^^^ x >>> 10 = small 1 x := by unfold small; rw [if_neg (by decide), if_pos rfl]
theorem small_nil (x : BitVec 32) : turn x 7 ^^^ turn x 18 ^^^ x >>> 3 = small 0 x := by unfold small; rw [if_pos rfl]
set_option maxHeartbeats 2000000 in
theorem rschedule_any (b o c : Nat) (l : List UInt8) (hl : l.length = 64) (w : World) (hsl : Sl w (some ⟨b, o, none⟩) c (byts l)) :
    Calls Tryd.prog 65 #[.slice (some ⟨b, o, none⟩) 64 c] w (GaveWords (sched l 64) w) := by
  obtain ⟨i0, hi, hz0, hz1, hz2⟩ := info_parts infoWord
  have hroom : 64 ≤ c := by have := hsl.room; rw [length_byts, hl] at this; exact this
  have hown0 : (w.alloc (.cells #[] 89)).ownsRow w.heap.size 89 1 (.slice (some ⟨w.heap.size, 0, none⟩) 0 0) 0 (words (sched l 0)) := World.ownsRow_lit w #[] 0 (Nat.le_refl _) (by unfold maxLen; omega) rfl
  have hbel0 : Below w.heap.size w (w.alloc (.cells #[] 89)) := (Below.refl _ _).alloc (Nat.le_refl _) _
  go_enter Tryd.func65, Tryd.ntmps65
  go_wp2_with fail
  go_loopw [3, 4] (fun v i wr => ∃ k : Nat, k ≤ 16 ∧ i = .int .i64 k ∧ wr.ownsRow w.heap.size 89 1 v k (words (sched l k)) ∧ Below w.heap.size w wr) (fun _ i _ => 16 - (intOf i).toNat)
  case atStart => exact ⟨0, by omega, rfl, hown0, hbel0⟩
  case round =>
    clear hown0 hbel0
    obtain ⟨k, hk, rfl, hown, hb⟩ := hrel
    by_cases hlt : k < 16
    · have hI1 : (0 : Int) ≤ 4 * (k : Int) := by omega
      have hI2 : 4 * (k : Int) ≤ 64 := by omega
      have hI4 : 4 * (k : Int) ≤ (c : Int) := by omega
      have hI3 : ¬ (c = 4 * k) := by omega
      have hI5 : ((4 * (k : Int)).toNat) = 4 * k := by omega
      have hsk : Sl wr (some ⟨b, o + 4 * k, none⟩) (c - 4 * k) (byts (l.drop (4 * k))) := by
        have h1 := (hsl.later (Nat.le_refl _) hb).cut (k := 4 * k) (by rw [length_byts]; omega)
        rw [show (byts l).drop (4 * k) = byts (l.drop (4 * k)) from by unfold byts; rw [List.map_drop]] at h1
        exact h1
      have hln := Lib.hid (show 64 - 4 * k = (l.drop (4 * k)).length by rw [List.length_drop, hl])
      have hlo := Lib.hid (next_low l k hlt)
      have hd1 : k + 1 ≤ maxLen := by unfold maxLen; omega
      have hd2 : (k + 1) * 4 ≤ 140737488355328 := by omega
      have hbs := hb.size
      have hbe := hb.alloc hbs (.cells #[Value.int .u32 (u (nextW l (sched l k)))] 89)
      have howna := hown.alloc (.cells #[Value.int .u32 (u (nextW l (sched l k)))] 89)
      have hlt' := fun j hj => (hown.lt j hj).1
      clear hown hb
      go_wp2_with (first
        | (go_at_call 74; refine (rget_at _ _ _ (l.drop (4 * k)) _ hsk hln.out).mono ?_; rintro e w' ⟨rfl, rfl⟩; rw [← u_getW, ← hlo.out])
        | (at_builtin; refine wpList_append_own _ rfl (.tmp 13) (.tmp 19) 91 rfl w.heap.size 89 i0 _ 1 4 Tryd.underlying91 hi hz0 hz1 hz2 rfl (by omega) _ k (words (sched l k)) rfl howna ⟨wr.heap.size, 0, none⟩ 1 1 (words [nextW l (sched l k)]) rfl rfl (cells_new _ _ _) (words_one _) hd1 hd2 (by rw [World.size_alloc]; omega) ?_; intro v3 w3 hown3 hg3 _; have hb3 : Below w.heap.size w w3 := hbe.grown hg3 (by rw [World.size_alloc]; omega) hlt'))
      go_roundw
      case rel =>
        refine ⟨k + 1, by omega, by go_num, ?_, hb3⟩
        rw [sched, words_append]; exact hown3
      case measure => simp [intOf]; omega
    · have e16 : k = 16 := by omega
      rw [e16] at hown
      clear e16
      go_wp2_with fail
      go_loopw [3, 5] (fun v i wr => ∃ j : Nat, j ≤ 48 ∧ i = .int .i64 ((j : Int) + 16) ∧ wr.ownsRow w.heap.size 89 1 v (j + 16) (words (sched l (j + 16))) ∧ Below w.heap.size w wr) (fun _ i _ => 64 - (intOf i).toNat)
      case atStart => exact ⟨0, by omega, rfl, hown, hb⟩
      case round =>
        clear hown hb
        obtain ⟨j, hj, rfl, hown, hb⟩ := hrel
        by_cases hlt : j < 48
        · obtain ⟨g, cap, rfl, _, hgl⟩ := hown.form (by omega)
          go_wp2_with fail
          have hk6 := length_sched l (j + 16)
          have c2 := own_cell hown (j + 14) (by omega)
          have c7 := own_cell hown (j + 9) (by omega)
          have c15 := own_cell hown (j + 1) (by omega)
          have c16 := own_cell hown j (by omega)
          have hnx := next_high l (j + 16) (by omega)
          rw [show j + 16 - 2 = j + 14 by omega, show j + 16 - 7 = j + 9 by omega, show j + 16 - 15 = j + 1 by omega, show j + 16 - 16 = j by omega] at hnx
          generalize (sched l (j + 16)).getD (j + 14) 0#32 = x2 at *
          generalize (sched l (j + 16)).getD (j + 9) 0#32 = x7 at *
          generalize (sched l (j + 16)).getD (j + 1) 0#32 = x15 at *
          generalize (sched l (j + 16)).getD j 0#32 = x16 at *
          have HNX := Lib.hid hnx
          have HK6 := Lib.hid hk6
          clear hnx hk6
          have w2 : IntKind.i64.wrap ((j : Int) + 16 - 2) = (j : Int) + 14 := by rw [IntKind.wrap_i64]; omega
          have w7 : IntKind.i64.wrap ((j : Int) + 16 - 7) = (j : Int) + 9 := by rw [IntKind.wrap_i64]; omega
          have w15 : IntKind.i64.wrap ((j : Int) + 16 - 15) = (j : Int) + 1 := by rw [IntKind.wrap_i64]; omega
          have n14 : (0 : Int) ≤ (j : Int) + 14 := by omega
          have m14 : (j : Int) + 14 < (j : Int) + 16 := by omega
          have t14 : ((j : Int) + 14).toNat = j + 14 := by omega
          have n9 : (0 : Int) ≤ (j : Int) + 9 := by omega
          have m9 : (j : Int) + 9 < (j : Int) + 16 := by omega
          have t9 : ((j : Int) + 9).toNat = j + 9 := by omega
          have n1 : (0 : Int) ≤ (j : Int) + 1 := by omega
          have m1 : (j : Int) + 1 < (j : Int) + 16 := by omega
          have t1 : ((j : Int) + 1).toNat = j + 1 := by omega
          have m0 : (j : Int) < (j : Int) + 16 := by omega
          have w0 : IntKind.i64.wrap (j : Int) = (j : Int) := by rw [IntKind.wrap_i64]; omega
          refine wp_region_noPanic ?_
          refine wp_region_held_drew (S := fun w' => w' = wr.drew) (by kernel_rfl) (rfl) (fun hHeld => ?_)
          refine rt 0 25 rfl ?_ (hy := by intro w hS; subst hS; go_simp; try with_reducible rfl)
          refine rt 1 26 rfl ?_ (hy := by intro w hS; subst hS; go_simp; try with_reducible rfl)
          refine rt 6 31 rfl ?_ (hy := by intro w hS; subst hS; go_simp; try with_reducible rfl)
          refine rt 7 32 rfl ?_ (hy := by intro w hS; subst hS; go_simp; try with_reducible rfl)
          refine rt 13 38 rfl ?_ (hy := by intro w hS; subst hS; go_simp; try with_reducible rfl)
          refine rt 14 39 rfl ?_ (hy := by intro w hS; subst hS; go_simp; try with_reducible rfl)
          refine rt 2 27 rfl ?_ (hy := by intro w hS; subst hS; go_simp; try with_reducible rfl)
          refine rt 8 33 rfl ?_ (hy := by intro w hS; subst hS; go_simp; try with_reducible rfl)
          refine rt 15 40 rfl ?_ (hy := by intro w hS; subst hS; go_simp; try with_reducible rfl)
          refine rt 3 28 rfl ?_ (hy := by intro w hS; subst hS; go_simp; try with_reducible rfl)
          refine rt 9 34 rfl ?_ (hy := by intro w hS; subst hS; go_simp; try with_reducible rfl)
          refine rt 16 41 rfl ?_ (hy := by intro w hS; subst hS; go_simp; try with_reducible rfl)
          refine rt 4 29 rfl ?_ (hy := by intro w hS; subst hS; go_simp; try with_reducible rfl)
          refine rt 10 35 rfl ?_ (hy := by intro w hS; subst hS; go_simp; try with_reducible rfl)
          refine rt 17 42 rfl ?_ (hy := by intro w hS; subst hS; go_simp; try with_reducible rfl)
          refine rt 18 43 rfl ?_ (hy := by intro w hS; subst hS; go_simp; try with_reducible rfl)
          refine rc1 5 fun K hK => ?_
          go_simp
          refine (rturn2_any _ 17 _ (by decide) (by decide)).mono ?_; rintro e w' ⟨rfl, rfl⟩
          try go_wp2_with fail
          refine hK.out _ _ rfl (fun _ => ?_)
          clear hK K
          try (rw [put_some]; dsimp only [List.set])
          refine rc1 11 fun K hK => ?_
          go_simp
          refine (rturn2_any _ 19 _ (by decide) (by decide)).mono ?_; rintro e w' ⟨rfl, rfl⟩
          try go_wp2_with fail
          refine hK.out _ _ rfl (fun _ => ?_)
          clear hK K
          try (rw [put_some]; dsimp only [List.set])
          refine rt 12 37 rfl ?_ (hy := by intro w hS; subst hS; go_simp; try with_reducible rfl)
          refine rt 19 44 rfl ?_ (hy := by intro w hS; subst hS; go_simp; try with_reducible rfl)
          refine rt 20 6 rfl ?_ (hy := by intro w hS; subst hS; go_simp; try with_reducible rfl)
          refine wpAnyH_done (by kernel_rfl) ?_ _
          refine NoPanic.normal ?_
          rw [small_one]
          go_wp2_with fail
          refine wp_region_noPanic ?_
          refine wp_region_held_drew (S := fun w' => w' = wr.drew.drew) (by kernel_rfl) (rfl) (fun hHeld => ?_)
          refine rt 0 45 rfl ?_ (hy := by intro w hS; subst hS; go_simp; try with_reducible rfl)
          refine rt 1 46 rfl ?_ (hy := by intro w hS; subst hS; go_simp; try with_reducible rfl)
          refine rt 6 51 rfl ?_ (hy := by intro w hS; subst hS; go_simp; try with_reducible rfl)
          refine rt 7 52 rfl ?_ (hy := by intro w hS; subst hS; go_simp; try with_reducible rfl)
          refine rt 13 58 rfl ?_ (hy := by intro w hS; subst hS; go_simp; try with_reducible rfl)
          refine rt 14 59 rfl ?_ (hy := by intro w hS; subst hS; go_simp; try with_reducible rfl)
          refine rt 2 47 rfl ?_ (hy := by intro w hS; subst hS; go_simp; try with_reducible rfl)
          refine rt 8 53 rfl ?_ (hy := by intro w hS; subst hS; go_simp; try with_reducible rfl)
          refine rt 15 60 rfl ?_ (hy := by intro w hS; subst hS; go_simp; try with_reducible rfl)
          refine rt 3 48 rfl ?_ (hy := by intro w hS; subst hS; go_simp; try with_reducible rfl)
          refine rt 9 54 rfl ?_ (hy := by intro w hS; subst hS; go_simp; try with_reducible rfl)
          refine rt 16 61 rfl ?_ (hy := by intro w hS; subst hS; go_simp; try with_reducible rfl)
          refine rt 4 49 rfl ?_ (hy := by intro w hS; subst hS; go_simp; try with_reducible rfl)
          refine rt 10 55 rfl ?_ (hy := by intro w hS; subst hS; go_simp; try with_reducible rfl)
          refine rt 17 62 rfl ?_ (hy := by intro w hS; subst hS; go_simp; try with_reducible rfl)
          refine rt 18 63 rfl ?_ (hy := by intro w hS; subst hS; go_simp; try with_reducible rfl)
          refine rc1 5 fun K hK => ?_
          go_simp
          refine (rturn2_any _ 7 _ (by decide) (by decide)).mono ?_; rintro e w' ⟨rfl, rfl⟩
          try go_wp2_with fail
          refine hK.out _ _ rfl (fun _ => ?_)
          clear hK K
          try (rw [put_some]; dsimp only [List.set])
          refine rc1 11 fun K hK => ?_
          go_simp
          refine (rturn2_any _ 18 _ (by decide) (by decide)).mono ?_; rintro e w' ⟨rfl, rfl⟩
          try go_wp2_with fail
          refine hK.out _ _ rfl (fun _ => ?_)
          clear hK K
          try (rw [put_some]; dsimp only [List.set])
          refine rt 12 57 rfl ?_ (hy := by intro w hS; subst hS; go_simp; try with_reducible rfl)
          refine rt 19 64 rfl ?_ (hy := by intro w hS; subst hS; go_simp; try with_reducible rfl)
          refine rt 20 7 rfl ?_ (hy := by intro w hS; subst hS; go_simp; try with_reducible rfl)
          refine wpAnyH_done (by kernel_rfl) ?_ _
          refine NoPanic.normal ?_
          rw [small_nil]
          go_wp2_with fail
          have hownd : wr.drew.drew.drew.ownsRow w.heap.size 89 1 (.slice (some ⟨g, 0, none⟩) (j + 16) cap) (j + 16) (words (sched l (j + 16))) := hown
          have hbd : Below w.heap.size w wr.drew.drew.drew := hb.drew.drew.drew
          have hd1 : j + 16 + 1 ≤ maxLen := by unfold maxLen; omega
          have hd2 : (j + 16 + 1) * 4 ≤ 140737488355328 := by omega
          have hd3 : w.heap.size ≤ (wr.drew.drew.drew.alloc (.cells #[Value.int .u32 (u (small 1 x2 + x7 + small 0 x15 + x16))] 89)).heap.size := by rw [World.size_alloc]; have := hbd.size; omega
          refine wp_region_noPanic ?_
          refine wp_region_held_drew (S := fun w' => w'.cell? ⟨g, j + 9, none⟩ = some (.int .u32 (u x7)) ∧ w'.cell? ⟨g, j, none⟩ = some (.int .u32 (u x16))) (by kernel_rfl) (⟨c7, c16⟩) (fun hHeld => ?_)
          refine rt 0 65 hHeld ?_ (hy := by intro w hS; obtain ⟨s7, s16⟩ := hS; go_simp; try with_reducible rfl)
          refine rt 1 66 hHeld ?_ (hy := by intro w hS; obtain ⟨s7, s16⟩ := hS; go_simp; try with_reducible rfl)
          refine rt 2 67 hHeld ?_ (hy := by intro w hS; obtain ⟨s7, s16⟩ := hS; go_simp; try with_reducible rfl)
          refine rt 3 68 hHeld ?_ (hy := by intro w hS; obtain ⟨s7, s16⟩ := hS; go_simp; try with_reducible rfl)
          refine rt 8 73 hHeld ?_ (hy := by intro w hS; obtain ⟨s7, s16⟩ := hS; go_simp; try with_reducible rfl)
          refine rt 10 75 hHeld ?_ (hy := by intro w hS; obtain ⟨s7, s16⟩ := hS; go_simp; try with_reducible rfl)
          refine rt 11 76 hHeld ?_ (hy := by intro w hS; obtain ⟨s7, s16⟩ := hS; go_simp; try with_reducible rfl)
          refine rt 4 69 hHeld ?_ (hy := by intro w hS; obtain ⟨s7, s16⟩ := hS; go_simp; try with_reducible rfl)
          refine rt 12 77 hHeld ?_ (hy := by intro w hS; obtain ⟨s7, s16⟩ := hS; go_simp; try with_reducible rfl)
          refine rt 5 70 hHeld ?_ (hy := by intro w hS; obtain ⟨s7, s16⟩ := hS; go_simp; try with_reducible rfl)
          refine rt 13 78 hHeld ?_ (hy := by intro w hS; obtain ⟨s7, s16⟩ := hS; go_simp; try with_reducible rfl)
          refine rt 6 71 hHeld ?_ (hy := by intro w hS; obtain ⟨s7, s16⟩ := hS; go_simp; try with_reducible rfl)
          refine rt 14 79 hHeld ?_ (hy := by intro w hS; obtain ⟨s7, s16⟩ := hS; go_simp; try with_reducible rfl)
          refine rt 7 72 hHeld ?_ (hy := by intro w hS; obtain ⟨s7, s16⟩ := hS; go_simp; try with_reducible rfl)
          refine rt 9 74 hHeld ?_ (hy := by intro w hS; obtain ⟨s7, s16⟩ := hS; go_simp; try with_reducible rfl)
          refine rt 15 80 hHeld ?_ (hy := by intro w hS; obtain ⟨s7, s16⟩ := hS; go_simp; try with_reducible rfl)
          refine rc1 16 fun K hK => ?_
          go_simp
          refine hK.out _ _ (by exact ⟨(World.cell?_alloc_lt _ _ _ hgl).trans c7, (World.cell?_alloc_lt _ _ _ hgl).trans c16⟩) (fun hHeld => ?_)
          clear hK K
          try (rw [put_some]; dsimp only [List.set])
          refine rc1 17 fun K hK => ?_
          refine step_append_kept (by rfl) (.tmp 65) (.tmp 81) 91 (by rfl) w.heap.size 89 i0 _ 4 Tryd.underlying91 hi hz0 hz1 hz2 rfl g (j + 16) cap (words (sched l (j + 16))) (by rfl) (hownd.alloc _) ⟨wr.heap.size, 0, none⟩ 1 1 (words [small 1 x2 + x7 + small 0 x15 + x16]) (by rfl) rfl (cells_new _ _ _) (words_one _) hd1 hd2 hd3 ?_; intro v3 w3 hown3 hg3 hk3; have hb3 : Below w.heap.size w w3 := (hbd.alloc hbd.size _).grown hg3 hd3 (fun i hi => by injection hi with hi; omega)
          refine hK.out _ _ (by exact ⟨(hk3 _ (by omega)).trans ((World.cell?_alloc_lt _ _ _ hgl).trans c7), (hk3 _ (by omega)).trans ((World.cell?_alloc_lt _ _ _ hgl).trans c16)⟩) (fun hHeld => ?_)
          clear hK K
          try (rw [put_some]; dsimp only [List.set])
          refine rt 18 3 hHeld ?_ (hy := by intro w hS; obtain ⟨s7, s16⟩ := hS; go_simp; try with_reducible rfl)
          refine wpAnyH_done (by kernel_rfl) ?_ _
          refine NoPanic.normal ?_
          clear c2 c7 c15 c16 w2 w7 w15 n14 m14 t14 n9 m9 t9 n1 m1 t1 m0 w0 hHeld hb hown hownd hbd
          go_wp2_with fail
          go_roundw
          case rel =>
            refine ⟨j + 1, by omega, by go_num, ?_, hb3⟩
            rw [show j + 1 + 16 = j + 16 + 1 by omega, sched, HNX.out, words_append]
            exact hown3
          case measure => simp [intOf]; omega
        · have e48 : j = 48 := by omega
          rw [e48] at hown
          have hl64 := length_sched l 64
          generalize sched l 64 = ws at *
          go_wp2
          go_ret
          exact ⟨_, rfl, by rw [hl64]; exact hown, hb⟩
end Go.Proofs.YtnkkgclmmaakgaaDoor
