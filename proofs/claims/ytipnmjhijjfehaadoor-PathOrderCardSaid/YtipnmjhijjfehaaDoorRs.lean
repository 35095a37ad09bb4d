/- strings.SplitSeq at a sign of one byte: the pieces, one by one. -/
import Derived.Test.YtipnmjhijjfehaaDoorRl
import Derived.Test.YtipnmjhijjfehaaDoorSp
import Derived.Test.YtipnmjhijjfehaaDoorCv
import Derived.Test.YtipnmjhijjfehaaDoorSh
namespace Go.Proofs.YtipnmjhijjfehaaDoor
set_option maxRecDepth 100000
open Go Go.RowKit

attribute [local go_sem] Oper.semAt_some
/-- The iterator's three variables: the text that is left, the sign, a 0. -/
def SeqBox (w : World) (b : Nat) (r : List UInt8) (c : UInt8) : Prop :=
  Boxed w b 9 (.string (bstr r)) ∧ Boxed w (b + 1) 9 (.string (bstr [c])) ∧ Boxed w (b + 2) 3 (.int .i64 0)
def SeqKeep (b : Nat) (A B : World) : Prop := ∀ k, b ≤ k → k ≤ b + 2 → B.heap[k]? = A.heap[k]?
theorem SeqBox.kept {A B : World} {b : Nat} {r : List UInt8} {c : UInt8} (h : SeqBox A b r c) (hk : SeqKeep b A B) : SeqBox B b r c :=
  ⟨(hk b (by omega) (by omega)).trans h.1, (hk (b + 1) (by omega) (by omega)).trans h.2.1, (hk (b + 2) (by omega) (by omega)).trans h.2.2⟩
theorem SeqBox.set {w : World} {b : Nat} {r : List UInt8} {c : UInt8} (h : SeqBox w b r c) (r' : List UInt8) : SeqBox (w.setCell ⟨b, 0, none⟩ (.string (bstr r'))) b r' c :=
  ⟨h.1.set _, h.2.1.kept (grownBy_setCell' w b _) (by simp), h.2.2.kept (grownBy_setCell' w b _) (by simp)⟩
theorem SeqKeep.trans {b : Nat} {A B C : World} (h : SeqKeep b A B) (k : SeqKeep b B C) : SeqKeep b A C := fun i h1 h2 => (k i h1 h2).trans (h i h1 h2)
def lenS (w : World) (b : Nat) : Nat := match w.cell? ⟨b, 0, none⟩ with
  | some (.string s) => s.size
  | _ => 0
theorem SeqBox.len {w : World} {b : Nat} {r : List UInt8} {c : UInt8} (h : SeqBox w b r c) : lenS w b = r.length := by
  unfold lenS; rw [h.1.cell, ← size_bstr]
theorem index_cases (r : List UInt8) (c : UInt8) : (Lib.indexByte r c = -1 ∧ splitL c r = [r]) ∨ ∃ i : Nat, i < r.length ∧ Lib.indexByte r c = (i : Int) ∧ splitL c r = r.take i :: splitL c (r.drop (i + 1)) := by
  by_cases h : Lib.indexByte r c = -1
  · refine .inl ⟨h, splitL_end c r fun d hd => ?_⟩
    obtain ⟨k, hk⟩ := List.getElem?_of_mem hd
    intro e
    exact Lib.indexByte_none h k (by rw [hk, e])
  · have hge := Lib.indexByte_ge r c
    obtain ⟨i, hi⟩ : ∃ i : Nat, Lib.indexByte r c = (i : Int) := ⟨(Lib.indexByte r c).toNat, by omega⟩
    obtain ⟨h1, h2⟩ := Lib.indexByte_some hi
    have hlt := (List.getElem?_eq_some_iff.1 h1).1
    refine .inr ⟨i, hlt, hi, ?_⟩
    have e : r = r.take i ++ c :: r.drop (i + 1) := by
      have hc : r[i] = c := (List.getElem?_eq_some_iff.1 h1).2
      conv => lhs; rw [← List.take_append_drop i r, List.drop_eq_getElem_cons hlt, hc]
    conv => lhs; rw [e]
    refine splitL_hit c _ _ fun d hd => ?_
    obtain ⟨k, hk⟩ := List.getElem?_of_mem hd
    have hki : k < i := by have := (List.getElem?_eq_some_iff.1 hk).1; rw [List.length_take] at this; omega
    intro e
    refine h2 k hki ?_
    rw [List.getElem?_take, if_pos hki] at hk
    rw [hk, e]
theorem splitSeq_any (s : List UInt8) (c : UInt8) (w : World) :
    Calls Tryd.prog 16 #[.string (bstr s), .string (bstr [c])] w fun e w' => e = .returned (.func (.func 29) #[] #[.pointer (some ⟨w.heap.size + 1, 0, none⟩), .pointer (some ⟨w.heap.size, 0, none⟩), .pointer (some ⟨w.heap.size + 2, 0, none⟩)]) ∧ SeqBox w' w.heap.size s c ∧ Below w.heap.size w w' ∧ w'.heap.size = w.heap.size + 3 := by
  have h : Calls Tryd.prog 23 #[.string (bstr s), .string (bstr [c]), .int .i64 0] w fun e w' => e = .returned (.func (.func 29) #[] #[.pointer (some ⟨w.heap.size + 1, 0, none⟩), .pointer (some ⟨w.heap.size, 0, none⟩), .pointer (some ⟨w.heap.size + 2, 0, none⟩)]) ∧ SeqBox w' w.heap.size s c ∧ Below w.heap.size w w' ∧ w'.heap.size = w.heap.size + 3 := by
    generalize hS : bstr s = S
    generalize hC : bstr [c] = C
    have HS := Lib.hid hS
    have HC := Lib.hid hC
    clear hS hC
    go_enter Tryd.func23, Tryd.ntmps23
    go_wp2
    go_ret
    have e1 : (w.alloc (.cells #[.string S] 9)).heap.size = w.heap.size + 1 := World.size_alloc _ _
    have e2 : ((w.alloc (.cells #[.string S] 9)).alloc (.cells #[.string C] 9)).heap.size = w.heap.size + 2 := by rw [World.size_alloc, e1]
    have b0 := Boxed.new w 9 (.string S)
    have b1 := Boxed.new (w.alloc (.cells #[.string S] 9)) 9 (.string C)
    have b2 := Boxed.new ((w.alloc (.cells #[.string S] 9)).alloc (.cells #[.string C] 9)) 3 (.int .i64 0)
    rw [e1] at b1
    rw [e2] at b2
    refine ⟨rfl, ⟨?_, ?_, b2⟩, ?_, ?_⟩
    · rw [HS.out]; exact (b0.alloc _).alloc _
    · rw [HC.out]; exact b1.alloc _
    · exact (((Below.refl _ w).alloc (Nat.le_refl _) _).alloc (by rw [e1]; omega) _).alloc (by rw [e2]; omega) _
    · rw [World.size_alloc, e2]
  go_enter Tryd.func16, Tryd.ntmps16
  go_wp2_with (go_at_call 23; refine h.mono ?_; rintro e w' ⟨rfl, hq⟩)
  go_ret
  exact ⟨rfl, hq⟩
theorem idx_any (r : List UInt8) (c : UInt8) (w : World) : Calls Tryd.prog 31 #[.string (bstr r), .string (bstr [c])] w fun e w' => e = .returned (.int .i64 (Lib.indexByte r c)) ∧ w = w' := by
  refine (Tryd.strings_Index_one (bstr r) c w).mono ?_
  rintro e w' ⟨rfl, rfl⟩
  exact ⟨rfl, rfl⟩
/-- The pieces, one by one. -/
def piecesV (s : List UInt8) (c : UInt8) : List (Array Value) := (splitL c s).map fun p => #[.string (bstr p)]
theorem pieces_at (s : List UInt8) (c : UInt8) (k : Nat) (p : List UInt8) (h : (splitL c s)[k]? = some p) : (piecesV s c)[k]? = some #[.string (bstr p)] := by
  unfold piecesV; rw [List.getElem?_map, h]; rfl
set_option maxHeartbeats 4000000 in
theorem splitSeq_gives (n : Nat) (hn : 1 ≤ n) (b : Nat) (s : List UInt8) (c : UInt8) (hs : s.length ≤ 100000) (w : World) (hb : SeqBox w b s c) (hlt : b + 3 ≤ w.heap.size) :
    SeqL Fence.wide n Tryd.prog 29 #[.pointer (some ⟨b + 1, 0, none⟩), .pointer (some ⟨b, 0, none⟩), .pointer (some ⟨b + 2, 0, none⟩)] (piecesV s c) b (SeqKeep b) w := by
  intro l J Jx W hW hJ hJx hY h0
  have hb : SeqBox W b s c := hb.kept fun k h1 h2 => hW.block k (by omega)
  have hlen : (piecesV s c).length = (splitL c s).length := by unfold piecesV; rw [List.length_map]
  have HJ := Lib.hid hJ
  have HJx := Lib.hid hJx
  have HY := Lib.hid hY
  have HL := Lib.hid hlen
  clear hJ hJx hY hlen
  refine callsIn_of_wp Tryd.func29 rfl trivial ?_ rfl
  simp only [Tryd.ntmps29, List.size_toArray, List.length_cons, List.length_nil, Nat.reduceAdd, Nat.reduceSub, Array.replicate_succ, Array.replicate_zero, List.push_toArray, List.append_toArray, List.nil_append, List.cons_append]
  have c1 := hb.2.1.cell
  have hz1 : (bstr [c]).size = 1 := rfl
  gi_wp2
  clear c1
  gi_loopw [] (fun wr => ∃ (k : Nat) (r : List UInt8), SeqBox wr b r c ∧ r.length ≤ s.length ∧ (splitL c s).drop k = splitL c r ∧ J k wr) (fun wr => lenS wr b)
  case atStart => exact ⟨0, s, hb, Nat.le_refl _, rfl, h0⟩
  case round =>
    clear h0 hb
    obtain ⟨k, r, hb, hrl, hdr, hj⟩ := hrel
    have HD := Lib.hid hdr
    clear hdr
    have cS := hb.1.cell
    have cC := hb.2.1.cell
    have cN := hb.2.2.cell
    have hix := Lib.hid (fun w' => idx_any r c w')
    have hzr : (bstr r).size = r.length := size_bstr r
    rcases index_cases r c with ⟨hi, hsp⟩ | ⟨i, hir, hi, hsp⟩
    · rw [hi] at hix
      have hlast : (splitL c s)[k]? = some r := by
        have : ((splitL c s).drop k)[0]? = some r := by rw [HD.out, hsp]; rfl
        rw [List.getElem?_drop] at this; simpa using this
      have hkl : (splitL c s).length = k + 1 := by
        have h1 := congrArg List.length (HD.out.trans hsp)
        rw [List.length_drop] at h1
        simp at h1; omega
      obtain ⟨fn, tmps, assign, body, hy, hR⟩ := HY.out k _ wr (pieces_at s c k r hlast) hj
      have HK := Lib.hid hkl
      have HR := Lib.hid hR
      clear hR hi hsp hlast hkl
      gi_wp2_with (refine ⟨trivial, ?_⟩; gi_at_call 31; refine (callsIn_wide.2 (hix.out _)).mono ?_; rintro e w' ⟨rfl, rfl⟩)
      refine HR.out.mono ?_
      rintro e W3 (⟨rfl, hJ3, -⟩ | ⟨rfl, hJ3⟩)
      · gi_wp2
        go_end0
        exact ⟨⟨_, rfl⟩, .inl (by rw [HL.out, HK.out]; exact hJ3)⟩
      · gi_wp2
        go_end0
        exact ⟨⟨_, rfl⟩, .inr ⟨k, by rw [HL.out, HK.out]; omega, hJ3⟩⟩
    · rw [hi] at hix
      have hhead : (splitL c s)[k]? = some (r.take i) := by
        have : ((splitL c s).drop k)[0]? = some (r.take i) := by rw [HD.out, hsp]; rfl
        rw [List.getElem?_drop] at this; simpa using this
      have hkl : k < (splitL c s).length := (List.getElem?_eq_some_iff.1 hhead).1
      have hnext : (splitL c s).drop (k + 1) = splitL c (r.drop (i + 1)) := by
        have := congrArg List.tail (HD.out.trans hsp)
        rw [List.tail_drop] at this; simpa using this
      obtain ⟨fn, tmps, assign, body, hy, hR⟩ := HY.out k _ wr (pieces_at s c k _ hhead) hj
      have HK := Lib.hid hkl
      have HN := Lib.hid hnext
      have HR := Lib.hid hR
      have e1 : (bstr r).extract 0 i = bstr (r.take i) := by rw [extract_bstr12]; simp
      have e2 : (bstr r).extract (i + 1) r.length = bstr (r.drop (i + 1)) := by rw [extract_bstr12, List.take_of_length_le (by rw [List.length_drop]; omega)]
      have hI : (i : Int) < (r.length : Int) := by omega
      clear hR hi hsp hhead hkl hnext
      gi_wp2_with (refine ⟨trivial, ?_⟩; gi_at_call 31; refine (callsIn_wide.2 (hix.out _)).mono ?_; rintro e w' ⟨rfl, rfl⟩)
      refine HR.out.mono ?_
      have hml := hb.len
      rintro e W3 (⟨rfl, hJ3, hk3⟩ | ⟨rfl, hJ3⟩)
      · have hb3 := hb.kept hk3
        have cS3 := hb3.1.cell
        have fS3 := hb3.1.frozen
        have cC3 := hb3.2.1.cell
        have hb4 := hb3.set (r.drop (i + 1))
        have hlb := hb4.len
        have HLB := Lib.hid hlb
        have HML := Lib.hid hml
        have HJ4 := HJ.out (k + 1) W3 _ hJ3 (grownBy_setCell' W3 b (.string (bstr (r.drop (i + 1)))))
        clear hlb hml
        gi_wp2
        go_roundw
        case rel => exact ⟨k + 1, r.drop (i + 1), hb4, by rw [List.length_drop]; omega, HN.out, HJ4⟩
        case measure => rw [HLB.out, HML.out, List.length_drop]; omega
      · clear hml
        gi_wp2
        refine bodyPost_ret (results_none rfl _ _ _) rfl ?_
        exact ⟨⟨_, rfl⟩, .inr ⟨k, by rw [HL.out]; exact HK.out, hJ3⟩⟩
end Go.Proofs.YtipnmjhijjfehaaDoor
