/- STRINGS OF BYTES: a slice of bytes turned into a string. No Go function is spoken of here. -/
import Derived.Test.YtbngnmhbnhpbeaaDoorZ
import Derived.Laws.BytesString
import Derived.Laws.Strings
namespace Go.Proofs.YtbngnmhbnhpbeaaDoor
open Go Go.RowKit

def bstr (l : List UInt8) : ByteArray := ⟨l.toArray⟩
theorem foldl_push (l : List UInt8) (s : ByteArray) : (l.map fun b => (b.toNat : Int)).foldl (fun r n => r.push (UInt8.ofNat n.toNat)) s = ⟨s.data ++ l.toArray⟩ := by
  induction l generalizing s with
  | nil => simp
  | cons b l ih =>
    rw [List.map_cons, List.foldl_cons, ih]
    simp [ByteArray.push]
/-- Bytes turned into a string. -/
theorem conv_bytes {w : World} {A : Option Addr} {c : Nat} {l : List UInt8} (h : Sl w A c (byts l)) (n : Nat) (hn : n = l.length) :
    (convert 48 9 (.slice A n c)).run Tryd.prog w = .ok (.string (bstr l)) w := by
  subst hn
  rw [run_convert_bytes_string w _ _ 5 A l.length c Tryd.underlying48 Tryd.underlying5 Tryd.underlying9]
  cases A with
  | none =>
    have hc := h.bare rfl
    have hr := h.room
    rw [length_byts] at hr
    obtain rfl : l = [] := List.eq_nil_of_length_eq_zero (by omega)
    rfl
  | some ad =>
    have e : byts l = (l.map fun b => (b.toNat : Int)).map (Value.int .u8) := by unfold byts; simp
    have hld : (loadCells ad l.length).run Tryd.prog w = .ok ((l.map fun b => (b.toNat : Int)).map (Value.int .u8)).toArray w := by
      have := run_loadCells_list (P := Tryd.prog) w ad (byts l) h.rd.at_add
      rw [length_byts, e] at this
      exact this
    rw [run_bytesToString w ad l.length c _ hld, foldl_push]
    simp [bstr]
theorem sl_of_own {w : World} {base t n g cap : Nat} {xs : List Value} (h : w.ownsRow base t 1 (.slice (some ⟨g, 0, none⟩) n cap) n xs) : Sl w (some ⟨g, 0, none⟩) cap xs := by
  obtain ⟨A3, c3, he, _, h3⟩ := Sl.of_own h
  injection he with e1 e2 e3
  subst e1 e3
  exact h3
theorem bstr_inj {a b : List UInt8} (h : bstr a = bstr b) : a = b := by
  unfold bstr at h
  injection h with h
  injection h
/-- In every later world these bytes are turned into the same string. -/
theorem conv_later {w : World} {A : Option Addr} {c : Nat} {l : List UInt8} (h : Sl w A c (byts l)) (n : Nat) (hn : n = l.length) :
    ∀ w' : World, Below w.heap.size w w' → (convert 48 9 (.slice A n c)).run Tryd.prog w' = .ok (.string (bstr l)) w' :=
  fun _ hb => conv_bytes (h.later (Nat.le_refl _) hb) n hn
/-- A string's byte. -/
theorem index_bstr (l : List UInt8) (k : Nat) (hk : k < l.length) (w : World) : (Instr.index 9 (.string (bstr l)) (.int .i64 (k : Int))).run Tryd.prog w = .ok (.int .u8 ((l.getD k 0).toNat : Int)) w := by
  have hs : (k : Int) < ((bstr l).size : Int) := by unfold bstr; simp [ByteArray.size]; omega
  obtain ⟨S, hS⟩ : ∃ S, S = bstr l := ⟨_, rfl⟩
  have hz : k < S.size := by rw [hS]; unfold bstr; simpa [ByteArray.size] using hk
  have hg : S[k] = l[k] := by subst hS; rfl
  have HG := Lib.hid hg
  rw [← hS] at hs ⊢
  clear hS hg
  go_simp
  rw [HG.out]
theorem bstr_toList (l : List UInt8) : (bstr l).toList = l := by rw [ByteArray.toList_eq]; rfl
/-- Two strings held against each other, as the walk spells it. -/
theorem bstr_beq (l k : List UInt8) : ((bstr l).toList == (bstr k).toList) = decide (l = k) := by
  rw [bstr_toList, bstr_toList]
  by_cases h : l = k
  · subst h; simp
  · rw [decide_eq_false h, beq_eq_false_iff_ne]; exact h
theorem bstr_cat12 (a b : List UInt8) : bstr a ++ bstr b = bstr (a ++ b) := by
  apply ByteArray.ext
  show (ByteArray.append _ _).data = _
  simp [bstr]
end Go.Proofs.YtbngnmhbnhpbeaaDoor
