/- LAYER 12: the document's zeros: how many numbers are 0 in a row. -/
import Derived.Test.YtflebnbpoboljaaDoorIn
namespace Go.Proofs.YtflebnbpoboljaaDoor
set_option maxRecDepth 100000
open Go Go.RowKit

def intsV (l : List Nat) : List Value := l.map fun n : Nat => .int .i64 (n : Int)
theorem length_intsV (l : List Nat) : (intsV l).length = l.length := by unfold intsV; simp
theorem get_intsV (l : List Nat) (i : Nat) (h : i < l.length) : (intsV l)[i]? = some (.int .i64 (l.getD i 0 : Nat)) := by unfold intsV; simp [h]
theorem intsV_append (l m : List Nat) : intsV (l ++ m) = intsV l ++ intsV m := by unfold intsV; simp
theorem intsV_drop (l : List Nat) (k : Nat) : intsV (l.drop k) = (intsV l).drop k := by unfold intsV; rw [List.map_drop]
theorem intsV_take (l : List Nat) (k : Nat) : intsV (l.take k) = (intsV l).take k := by unfold intsV; rw [List.map_take]
theorem intsV_one (l : List Nat) : ∀ v ∈ intsV l, v.oneCell' = true := by
  intro v hv
  obtain ⟨_, _, rfl⟩ := List.mem_map.1 hv
  rfl
theorem index_ints (A : Option Addr) (b o n c k : Nat) (hA : A = some ⟨b, o, none⟩) (hk : k < n) (w : World) :
    (Instr.indexAt 55 (.slice A n c) (.int .i64 k)).run Tryd.prog w = .ok (.pointer (some ⟨b, o + k, none⟩)) w := by
  subst hA
  have h : (k : Int) < (n : Int) := by omega
  go_simp
theorem ints_cell {w : World} {b o c : Nat} {l : List Nat} (h : Sl w (some ⟨b, o, none⟩) c (intsV l)) (k : Nat) (hk : k < l.length) : w.cell? ⟨b, o + k, none⟩ = some (.int .i64 (l.getD k 0 : Nat)) := by
  obtain ⟨b', o', hA, _, hc⟩ := h.rd.get (i := k) (by rw [length_intsV]; exact hk)
  cases hA
  rw [hc, get_intsV _ _ hk]
theorem zerosL_at (l : List Nat) (k : Nat) (h : k < l.length) : zerosL (l.drop k) = if l.getD k 0 = 0 then zerosL (l.drop (k + 1)) + 1 else 0 := by
  rw [List.drop_eq_getElem_cons h, zerosL, List.getD_eq_getElem?_getD, List.getElem?_eq_getElem h]; rfl
theorem rzeros_any (l : List Nat) (p : Nat) (hp : p ≤ l.length) (hl : l.length ≤ 1000000) (A : Option Addr) (c : Nat) (w : World) (hs : Sl w A c (intsV l)) :
    Calls Tryd.prog 44 #[.slice A l.length c, .int .i64 p] w fun e w' => e = .returned (.int .i64 (zerosL (l.drop p) : Nat)) ∧ w = w' := by
  go_enter Tryd.func44, Tryd.ntmps44
  go_wp2
  go_loop [5] (fun i => ∃ k : Nat, p + k ≤ l.length ∧ i = .int .i64 k ∧ k + zerosL (l.drop (p + k)) = zerosL (l.drop p)) (fun i => 1000001 - (intOf i).toNat)
  case atStart => exact ⟨0, by omega, rfl, by simp⟩
  case round =>
    obtain ⟨k, hk, rfl, hz⟩ := hrel
    have hw1 : IntKind.i64.wrap ((p : Int) + (k : Int)) = ((p + k : Nat) : Int) := by rw [IntKind.wrap_i64]; omega
    by_cases hlt : p + k < l.length
    · have hlt' : ((p + k : Nat) : Int) < (l.length : Int) := by omega
      obtain ⟨b, o, hA, -, -⟩ := hs.rd.get (i := p + k) (by rw [length_intsV]; exact hlt)
      have hix := index_ints A b o l.length c (p + k) hA hlt w
      have hce := ints_cell (by rw [hA] at hs; exact hs) (p + k) hlt
      have hzk := zerosL_at l (p + k) hlt
      by_cases h0 : l.getD (p + k) 0 = 0
      · rw [if_pos h0] at hzk
        rw [h0] at hce
        have HZ := Lib.hid hz
        have HK := Lib.hid hzk
        generalize hq : p + k = q at *
        clear hz hzk h0 hs
        go_wp2
        go_round
        case rel => exact ⟨k + 1, by omega, by go_num, by rw [show p + (k + 1) = q + 1 by omega, ← HZ.out, HK.out]; omega⟩
        case measure => simp [intOf]; omega
      · rw [if_neg h0] at hzk
        have HZ := Lib.hid hz
        have HK := Lib.hid hzk
        have h0' : ((l.getD (p + k) 0 : Nat) : Int) ≠ 0 := by omega
        generalize l.getD (p + k) 0 = x at *
        generalize hq : p + k = q at *
        clear hz hzk h0 hs
        go_wp2
        go_ret
        exact ⟨by rw [← HZ.out, HK.out]; rfl, rfl⟩
    · have hge : (l.length : Int) ≤ ((p + k : Nat) : Int) := by omega
      have HZ := Lib.hid hz
      clear hz
      go_wp2
      go_ret
      exact ⟨by rw [← HZ.out, List.drop_of_length_le (by omega)]; rfl, rfl⟩
end Go.Proofs.YtflebnbpoboljaaDoor
