/- LAYER 3: SHA-256 as a list function; a digest in memory; steps of regions on the middle of a block. -/
import Derived.Test.YtefbopgbikmohaaDoorPad
import Derived.Test.YtefbopgbikmohaaDoorCmp
import Derived.Deep.MidRow
namespace Go.Proofs.YtefbopgbikmohaaDoor
open Go Go.RowKit

/-! ### Lists -/
/-- The eight words with which it begins. -/
def S0 : St := ⟨1779033703#32, 3144134277#32, 1013904242#32, 2773480762#32, 1359893119#32, 2600822924#32, 528734635#32, 1541459225#32⟩
theorem start_words : startV = .agg (words S0.list).toArray := by kernel_rfl
/-- The k-th 64 bytes. -/
def blkAt (l : List UInt8) (k : Nat) : List UInt8 := (l.drop (64 * k)).take 64
/-- The eight words behind k blocks. -/
def stK (l : List UInt8) : Nat → St
  | 0 => S0
  | k + 1 => compS (blkAt l k) (stK l k)
theorem length_blkAt (l : List UInt8) (k : Nat) (h : 64 * (k + 1) ≤ l.length) : (blkAt l k).length = 64 := by
  unfold blkAt; rw [List.length_take, List.length_drop]; omega
theorem blkAt_append (l m : List UInt8) (k : Nat) (h : 64 * (k + 1) ≤ l.length) : blkAt (l ++ m) k = blkAt l k := by
  unfold blkAt
  rw [List.drop_append_of_le_length (by omega), List.take_append_of_le_length (by rw [List.length_drop]; omega)]
theorem stK_append (l m : List UInt8) (k : Nat) (h : 64 * k ≤ l.length) : stK (l ++ m) k = stK l k := by
  induction k with
  | zero => rfl
  | succ k ih => rw [stK, stK, ih (by omega), blkAt_append l m k h]
/-- All eight words behind the blocks of a message that is padded already. -/
def shaS (l : List UInt8) : St := stK (l ++ padL l.length) ((l.length + (padL l.length).length) / 64)
def wordsB (s : List (BitVec 32)) : List UInt8 := s.flatMap bytesL
/-- SHA-256. -/
def shaL (l : List UInt8) : List UInt8 := wordsB (shaS l).list
theorem length_shaL (l : List UInt8) : (shaL l).length = 32 := rfl
theorem padded_mod (l : List UInt8) : (l.length + (padL l.length).length) % 64 = 0 := by
  rw [length_padL]; unfold noughts; omega

/-! ### A digest -/
/-- The open block holds what is behind the full ones. -/
def Opn (l o : List UInt8) : Prop := o.length = 64 ∧ o.take (l.length % 64) = l.drop (64 * (l.length / 64))
def digV (s : St) (o : List UInt8) (m : Nat) : List Value := words s.list ++ (byts o ++ [.int .u64 m])
/-- Block g is a digest to which l was written. -/
def Dgt (w : World) (g : Nat) (l : List UInt8) : Prop := 1 < g ∧ ∃ o, Opn l o ∧ Row w g 63 (digV (stK l (l.length / 64)) o l.length)
theorem opn_nil : Opn [] (List.replicate 64 0) := ⟨by simp, by simp⟩
theorem splice_take {o c : List UInt8} {r : Nat} (hr : r ≤ o.length) : (splice o r c).take (r + c.length) = o.take r ++ c := by
  unfold splice
  rw [← List.append_assoc, List.take_append_of_le_length (by rw [List.length_append, List.length_take]; omega), List.take_of_length_le (by rw [List.length_append, List.length_take]; omega)]
theorem opn_take {l o : List UInt8} (c : List UInt8) (h : Opn l o) : (splice o (l.length % 64) c).take (l.length % 64 + c.length) = (l ++ c).drop (64 * (l.length / 64)) := by
  rw [splice_take (by rw [h.1]; omega), h.2, List.drop_append_of_le_length (by omega)]
theorem opn_more {l o c : List UInt8} (h : Opn l o) (hc : l.length % 64 + c.length < 64) :
    Opn (l ++ c) (splice o (l.length % 64) c) ∧ stK (l ++ c) ((l ++ c).length / 64) = stK l (l.length / 64) := by
  have e1 : (l ++ c).length / 64 = l.length / 64 := by rw [List.length_append]; omega
  have e2 : (l ++ c).length % 64 = l.length % 64 + c.length := by rw [List.length_append]; omega
  refine ⟨⟨by rw [length_splice _ _ _ (by rw [h.1]; omega), h.1], ?_⟩, ?_⟩
  · rw [e1, e2, opn_take c h]
  · rw [e1, stK_append _ _ _ (by omega)]
theorem opn_full {l o c : List UInt8} (h : Opn l o) (hc : l.length % 64 + c.length = 64) :
    Opn (l ++ c) (splice o (l.length % 64) c) ∧ stK (l ++ c) ((l ++ c).length / 64) = compS (splice o (l.length % 64) c) (stK l (l.length / 64)) := by
  have e1 : (l ++ c).length / 64 = l.length / 64 + 1 := by rw [List.length_append]; omega
  have e2 : (l ++ c).length % 64 = 0 := by rw [List.length_append]; omega
  have hl : (splice o (l.length % 64) c).length = 64 := by rw [length_splice _ _ _ (by rw [h.1]; omega), h.1]
  have hd : (l ++ c).drop (64 * (l.length / 64)) = splice o (l.length % 64) c := by
    rw [← opn_take c h, List.take_of_length_le (by rw [hl]; omega)]
  refine ⟨⟨hl, ?_⟩, ?_⟩
  · rw [e1, e2, List.take_zero, List.drop_of_length_le (by rw [List.length_append]; omega)]
  · rw [e1, stK, blkAt, hd, List.take_of_length_le (by rw [hl]; exact Nat.le_refl _), stK_append _ _ _ (by omega)]

/-! ### The cells of a digest -/
theorem length_list (s : St) : s.list.length = 8 := rfl
theorem length_digV (s : St) (o : List UInt8) (m : Nat) (ho : o.length = 64) : (digV s o m).length = 73 := by
  unfold digV; simp [length_words, length_byts, ho, length_list]
theorem digV_many (s : St) (o : List UInt8) (m : Nat) (ho : o.length = 64) : (digV s o m)[72]? = some (.int .u64 m) := by
  unfold digV
  rw [List.getElem?_append_right (by rw [length_words, length_list]; omega), List.getElem?_append_right (by rw [length_words, length_byts, length_list]; omega)]
  simp [length_words, length_byts, ho, length_list]
theorem digV_set (s : St) (o : List UInt8) (m n : Nat) (ho : o.length = 64) : (digV s o m).set 72 (.int .u64 n) = digV s o n := by
  unfold digV
  rw [List.set_append_right _ _ (by rw [length_words, length_list]; omega), List.set_append_right _ _ (by rw [length_words, length_byts, length_list]; omega)]
  simp [length_words, length_byts, ho, length_list]
theorem splice_mid {α : Type} (A B C D : List α) (r : Nat) (h : r + D.length ≤ B.length) : splice (A ++ (B ++ C)) (A.length + r) D = A ++ (splice B r D ++ C) := by
  unfold splice
  rw [List.take_length_add_append, List.take_append_of_le_length (by omega), Nat.add_assoc, List.drop_length_add_append, List.drop_append_of_le_length h]
  simp
theorem byts_splice (o c : List UInt8) (r : Nat) : byts (splice o r c) = splice (byts o) r (byts c) := by
  unfold splice
  rw [byts_append, byts_append, length_byts]
  unfold byts; rw [List.map_take, List.map_drop]
theorem digV_copy (s : St) (o c : List UInt8) (m r : Nat) (ho : o.length = 64) (h : r + c.length ≤ 64) : splice (digV s o m) (8 + r) (byts c) = digV s (splice o r c) m := by
  unfold digV
  have := splice_mid (words s.list) (byts o) [.int .u64 m] (byts c) r (by rw [length_byts, length_byts]; omega)
  rw [length_words, length_list] at this
  rw [this, byts_splice]
theorem digV_words (s t : St) (o : List UInt8) (m : Nat) : splice (digV s o m) 0 (words t.list) = digV t o m := by
  unfold digV splice
  rw [List.take_zero, List.nil_append, Nat.zero_add, length_words, length_list]
  congr 1
theorem digV_range0 {w : World} {g : Nat} {t : TypeId} {s : St} {o : List UInt8} {m : Nat} (h : Row w g t (digV s o m)) : w.rangeAt g 0 (words s.list) :=
  range_of_row (A := []) h
theorem digV_range8 {w : World} {g : Nat} {t : TypeId} {s : St} {o : List UInt8} {m : Nat} (h : Row w g t (digV s o m)) : w.rangeAt g 8 (byts o) := by
  have := range_of_row (A := words s.list) h
  rwa [length_words, length_list] at this

/-! ### One block alone is written -/
theorem Dgt.lt {w : World} {g : Nat} {l : List UInt8} (h : Dgt w g l) : g < w.heap.size := by
  obtain ⟨_, o, _, h⟩ := h; exact h.lt
theorem Dgt.later {w w' : World} {g : Nat} {l : List UInt8} {B : Nat} (h : Dgt w g l) (hb : Below B w w') (hg : g < B) : Dgt w' g l := by
  obtain ⟨hq, o, ho, h⟩ := h; exact ⟨hq, o, ho, h.later hb hg⟩
theorem Dgt.grown {w w' : World} {g k : Nat} {l : List UInt8} (h : Dgt w g l) (hg : w.grownBy w' (some k)) (hne : g ≠ k) : Dgt w' g l := by
  obtain ⟨hq, o, ho, h⟩ := h; exact ⟨hq, o, ho, h.grown hg hne⟩
theorem Dgt.many {w : World} {g : Nat} {l : List UInt8} (h : Dgt w g l) : w.cell? ⟨g, 72, none⟩ = some (.int .u64 l.length) := by
  obtain ⟨_, o, ho, h⟩ := h
  exact (h.cell 72).trans (digV_many _ _ _ ho.1)
/-- Behind a whole number of blocks the words are what they came to. -/
theorem Dgt.range {w : World} {g : Nat} {l : List UInt8} (h : Dgt w g (l ++ padL l.length)) : w.rangeAt g 0 (words (shaS l).list) := by
  obtain ⟨_, o, _, h⟩ := h
  rw [List.length_append] at h
  exact digV_range0 h
theorem Cube.grown {w w' : World} {k : Nat} (h : Cube w) (hg : w.grownBy w' (some k)) (hne : 1 < k) : Cube w' :=
  ⟨fun i hi => by rw [World.cell?_of_block (w := w) (hg.block 1 h.size (fun e => by have := Option.some.inj e; omega))]; exact h.at_ i hi⟩
theorem Dgt.kept {w w' : World} {g : Nat} {l : List UInt8} {row : Option Nat} (h : Dgt w g l) (hg : w.grownBy w' row) (hne : ∀ k, row = some k → g < k) : Dgt w' g l := by
  obtain ⟨hq, o, ho, h⟩ := h
  refine ⟨hq, o, ho, ?_⟩
  have hl := h.lt
  unfold Row at h ⊢
  rw [hg.block g hl (fun e => by have := hne g e.symm; omega)]; exact h
theorem blkAt_cut (l : List UInt8) (k : Nat) : (byts l).drop (64 * k) = byts (blkAt l k) ++ byts (l.drop (64 * k + 64)) := by
  rw [← byts_append]
  unfold blkAt byts
  rw [← List.drop_drop, List.take_append_drop, List.map_drop]
end Go.Proofs.YtefbopgbikmohaaDoor
