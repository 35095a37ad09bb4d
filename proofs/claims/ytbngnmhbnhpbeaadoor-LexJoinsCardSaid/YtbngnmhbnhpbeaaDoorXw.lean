/- LAYER 16: the document's Words. -/
import Derived.Test.YtbngnmhbnhpbeaaDoorXj
namespace Go.Proofs.YtbngnmhbnhpbeaaDoor
set_option maxRecDepth 100000
open Go Go.RowKit

theorem inkB_nat (c : UInt8) : inkB c = (decide (32 ≤ c.toNat) && decide (c.toNat ≤ 126)) := rfl
theorem words_empty : wordsL [] = some [] := rfl
theorem words_far (s : List UInt8) (h0 : s ≠ []) (h : 512 < s.length) : wordsL s = none := by
  unfold wordsL
  rw [if_neg h0, if_neg (fun k => by omega)]
theorem words_ink (s : List UInt8) (h0 : s ≠ []) (h : s.all inkB = false) : wordsL s = none := by
  unfold wordsL
  rw [if_neg h0, if_neg (fun k => by rw [h] at k; cases k.2.1)]
theorem words_split (s : List UInt8) (h0 : s ≠ []) (hl : s.length ≤ 512) (h : s.all inkB = true) : wordsL s = if (splitL 32 s).all (fun p => decide (p ≠ [])) = true then some (splitL 32 s) else none := by
  unfold wordsL
  rw [if_neg h0]
  by_cases hk : (splitL 32 s).all (fun p => decide (p ≠ [])) = true
  · rw [if_pos ⟨hl, h, hk⟩, if_pos hk]
  · rw [if_neg (fun k => hk k.2.2), if_neg hk]
theorem alle_at (ps : List (List UInt8)) (k : Nat) (h : k < ps.length) : (ps.drop k).all (fun p => decide (p ≠ [])) = (decide (ps.getD k [] ≠ []) && (ps.drop (k + 1)).all (fun p => decide (p ≠ []))) := by
  rw [List.drop_eq_getElem_cons h, List.all_cons, List.getD_eq_getElem?_getD, List.getElem?_eq_getElem h]; rfl
theorem bstr_empty (s : List UInt8) : (bstr s).toList.isEmpty = decide (s = []) := by
  rw [bstr_toList]
  cases s <;> rfl
set_option maxHeartbeats 4000000 in
theorem rwords16_any (s : List UInt8) (hs : s.length ≤ 4000) (w : World) : Calls Tryd.prog 8 #[.string (bstr s)] w (GaveRow (wordsL s) w) := by
  have hz := size_bstr s
  have e1 := bstr_empty s
  by_cases h0 : s = []
  · subst h0
    have hslp : Sl (w.alloc (.cells #[] 9)) (some ⟨w.heap.size, 0, none⟩) 0 (strsV []) := sl_made (strsV []) rfl 0 rfl
    have hb : Below w.heap.size w (w.alloc (.cells #[] 9)) := (Below.refl _ w).alloc (Nat.le_refl _) _
    rw [decide_eq_true rfl] at e1
    go_enter Tryd.func8, Tryd.ntmps8
    go_wp2
    go_ret2
    exact ⟨some ⟨w.heap.size, 0, none⟩, 0, rfl, hslp, hb⟩
  rw [decide_eq_false h0] at e1
  by_cases hlong : 512 < s.length
  · have HV := Lib.hid (words_far s h0 hlong)
    have a1 : (512 : Int) < (s.length : Int) := by omega
    clear hlong h0
    go_enter Tryd.func8, Tryd.ntmps8
    go_wp2
    go_ret2
    exact ⟨none, 0, by rw [HV.out]; rfl, by rw [HV.out]; exact sl_none16 _, Below.refl _ _⟩
  have a1 : decide ((512 : Int) < (s.length : Int)) = false := decide_eq_false (by omega)
  have HI := Lib.hid (words_ink s h0)
  have HS := Lib.hid (words_split s h0 (by omega))
  have hsp := Lib.hid (rsplit16_any s 32 hs w)
  have hlen := splitL_len 32 s
  clear h0 hlong
  go_enter Tryd.func8, Tryd.ntmps8
  go_wp2
  clear a1 e1
  go_loop [4] (fun i => ∃ k : Nat, k ≤ s.length ∧ i = .int .i64 k ∧ (s.drop k).all inkB = s.all inkB) (fun i => s.length - (intOf i).toNat)
  case atStart => exact ⟨0, by omega, rfl, rfl⟩
  case round =>
    obtain ⟨k, hk, rfl, hf⟩ := hrel
    by_cases hlt : k < s.length
    · have hlt' : (k : Int) < (s.length : Int) := by omega
      have hix := index_bstr s k hlt
      have HA := Lib.hid (allAt inkB s k hlt)
      have HF := Lib.hid hf
      generalize s.getD k 0 = c at *
      clear hf
      by_cases c1 : c.toNat < 32
      · have HN := Lib.hid (HI.out (by rw [← HF.out, HA.out, show inkB c = false by rw [inkB_nat, decide_eq_false (by omega : ¬ 32 ≤ c.toNat)]; rfl, Bool.false_and]))
        have c1' : (c.toNat : Int) < 32 := by omega
        clear HA c1
        go_wp2
        go_ret2
        exact ⟨none, 0, by rw [HN.out]; rfl, by rw [HN.out]; exact sl_none16 _, Below.refl _ _⟩
      · have c1' : decide ((c.toNat : Int) < 32) = false := decide_eq_false (by omega)
        by_cases c2 : 126 < c.toNat
        · have HN := Lib.hid (HI.out (by rw [← HF.out, HA.out, show inkB c = false by rw [inkB_nat, decide_eq_false (by omega : ¬ c.toNat ≤ 126), Bool.and_false], Bool.false_and]))
          have c2' : (126 : Int) < (c.toNat : Int) := by omega
          clear HA c1 c2
          go_wp2
          go_ret2
          exact ⟨none, 0, by rw [HN.out]; rfl, by rw [HN.out]; exact sl_none16 _, Below.refl _ _⟩
        · have HN := Lib.hid (show (s.drop (k + 1)).all inkB = s.all inkB by rw [← HF.out, HA.out, show inkB c = true by rw [inkB_nat, decide_eq_true (by omega : 32 ≤ c.toNat), decide_eq_true (by omega : c.toNat ≤ 126)]; rfl, Bool.true_and])
          have c2' : decide ((126 : Int) < (c.toNat : Int)) = false := decide_eq_false (by omega)
          clear HA c1 c2
          go_wp2
          go_round
          case rel => exact ⟨k + 1, by omega, by go_num, HN.out⟩
          case measure => simp [intOf]; omega
    · obtain rfl : k = s.length := by omega
      have HW := Lib.hid (HS.out (by rw [← hf, List.drop_length]; rfl))
      clear hf HS HI
      generalize splitL 32 s = ps at *
      generalize wordsL s = V at *
      go_wp2_with (go_at_call 23; refine hsp.out.mono ?_; rintro e w1 ⟨v, rfl, hown, hb1⟩; obtain ⟨A, c, rfl, hpl, hsl⟩ := Sl.of_own hown; clear hpl)
      clear hown
      go_loop [34] (fun i => ∃ k : Nat, k ≤ ps.length ∧ i = .int .i64 k ∧ (ps.drop k).all (fun p => decide (p ≠ [])) = ps.all (fun p => decide (p ≠ []))) (fun i => ps.length - (intOf i).toNat)
      case atStart => exact ⟨0, by omega, rfl, rfl⟩
      case round =>
        obtain ⟨k, hk, rfl, hf⟩ := hrel
        by_cases hlt : k < ps.length
        · have hlt' : (k : Int) < (ps.length : Int) := by omega
          obtain ⟨b, o, rfl, -, -⟩ := hsl.rd.get (i := k) (by rw [length_strsV]; exact hlt)
          have hix := index_strs (some ⟨b, o, none⟩) b o ps.length c k rfl hlt
          have hce := strs_cell hsl k hlt
          have HA := Lib.hid (alle_at ps k hlt)
          have HF := Lib.hid hf
          generalize ps.getD k [] = p at *
          have e1 := bstr_empty p
          clear hf
          by_cases hp : p = []
          · have HN := Lib.hid (HW.out.trans (if_neg (by rw [← HF.out, HA.out, decide_eq_false (fun h => h hp : ¬ p ≠ [])]; simp)))
            rw [decide_eq_true hp] at e1
            clear HA hp
            go_wp2
            go_ret2
            exact ⟨none, 0, by rw [HN.out]; rfl, by rw [HN.out]; exact sl_none16 _, hb1⟩
          · have HN := Lib.hid (show (ps.drop (k + 1)).all (fun p => decide (p ≠ [])) = ps.all (fun p => decide (p ≠ [])) by rw [← HF.out, HA.out, decide_eq_true hp, Bool.true_and])
            rw [decide_eq_false hp] at e1
            clear HA hp
            go_wp2
            go_round
            case rel => exact ⟨k + 1, by omega, by go_num, HN.out⟩
            case measure => simp [intOf]; omega
        · obtain rfl : k = ps.length := by omega
          have HN := Lib.hid (HW.out.trans (if_pos (by rw [← hf, List.drop_length]; rfl)))
          clear hf
          go_wp2
          go_ret2
          exact ⟨A, c, by rw [HN.out]; rfl, by rw [HN.out]; exact hsl, hb1⟩
end Go.Proofs.YtbngnmhbnhpbeaaDoor
