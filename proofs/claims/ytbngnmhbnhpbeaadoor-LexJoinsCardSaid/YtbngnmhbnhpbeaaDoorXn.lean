/- LAYER 16: the document's Name. -/
import Derived.Test.YtbngnmhbnhpbeaaDoorXl
import Derived.Test.YtbngnmhbnhpbeaaDoorSs
import Derived.Test.YtbngnmhbnhpbeaaDoorB1
namespace Go.Proofs.YtbngnmhbnhpbeaaDoor
set_option maxRecDepth 100000
open Go Go.RowKit

theorem allAt (P : UInt8 → Bool) (s : List UInt8) (k : Nat) (h : k < s.length) : (s.drop k).all P = (P (s.getD k 0) && (s.drop (k + 1)).all P) := by
  rw [List.drop_eq_getElem_cons h, List.all_cons, List.getD_eq_getElem?_getD, List.getElem?_eq_getElem h]; rfl
theorem name16_iff (s : List UInt8) : name16 s = (decide (1 ≤ s.length) && decide (s.length ≤ 16) && s.all lowB) := rfl
set_option maxHeartbeats 2000000 in
theorem rname16_any (s : List UInt8) (hs : s.length ≤ 100000) (w : World) : Calls Tryd.prog 15 #[.string (bstr s)] w fun e w' => e = .returned (.bool (name16 s)) ∧ w = w' := by
  have hz := size_bstr s
  have HV := Lib.hid (name16_iff s)
  generalize name16 s = V at *
  by_cases h1 : s.length < 1
  · have HW := Lib.hid (show V = false by rw [HV.out, decide_eq_false (by omega : ¬ 1 ≤ s.length)]; rfl)
    have a1 : (s.length : Int) < 1 := by omega
    clear HV
    go_enter Tryd.func15, Tryd.ntmps15
    go_wp2
    go_ret
    exact ⟨by rw [HW.out]; rfl, rfl⟩
  have a1 : decide ((s.length : Int) < 1) = false := decide_eq_false (by omega)
  by_cases h2 : 16 < s.length
  · have HW := Lib.hid (show V = false by rw [HV.out, decide_eq_false (by omega : ¬ s.length ≤ 16), Bool.and_false]; rfl)
    have a2 : (16 : Int) < (s.length : Int) := by omega
    clear HV
    go_enter Tryd.func15, Tryd.ntmps15
    go_wp2
    go_ret
    exact ⟨by rw [HW.out]; rfl, rfl⟩
  have a2 : decide ((16 : Int) < (s.length : Int)) = false := decide_eq_false (by omega)
  have HW := Lib.hid (show V = s.all lowB by rw [HV.out, decide_eq_true (show 1 ≤ s.length by omega), decide_eq_true (show s.length ≤ 16 by omega)]; rfl)
  clear HV h1 h2
  go_enter Tryd.func15, Tryd.ntmps15
  go_wp2
  clear a1 a2
  go_loop [3] (fun i => ∃ k : Nat, k ≤ s.length ∧ i = .int .i64 k ∧ (s.drop k).all lowB = s.all lowB) (fun i => s.length - (intOf i).toNat)
  case atStart => exact ⟨0, by omega, rfl, rfl⟩
  case round =>
    obtain ⟨k, hk, rfl, hf⟩ := hrel
    by_cases hlt : k < s.length
    · have hlt' : (k : Int) < (s.length : Int) := by omega
      have hix := index_bstr s k hlt
      have HA := Lib.hid (allAt lowB s k hlt)
      have HF := Lib.hid hf
      generalize s.getD k 0 = c at *
      clear hf
      by_cases c1 : c.toNat < 97
      · have HN := Lib.hid (show V = false by rw [HW.out, ← HF.out, HA.out, show lowB c = false by unfold lowB; rw [decide_eq_false (by omega : ¬ 97 ≤ c.toNat)]; rfl, Bool.false_and])
        have c1' : (c.toNat : Int) < 97 := by omega
        clear HA c1
        go_wp2
        go_ret
        exact ⟨by rw [HN.out]; rfl, rfl⟩
      · have c1' : decide ((c.toNat : Int) < 97) = false := decide_eq_false (by omega)
        by_cases c2 : 122 < c.toNat
        · have HN := Lib.hid (show V = false by rw [HW.out, ← HF.out, HA.out, show lowB c = false by unfold lowB; rw [decide_eq_false (by omega : ¬ c.toNat ≤ 122), Bool.and_false], Bool.false_and])
          have c2' : (122 : Int) < (c.toNat : Int) := by omega
          clear HA c1 c2
          go_wp2
          go_ret
          exact ⟨by rw [HN.out]; rfl, rfl⟩
        · have HN := Lib.hid (show (s.drop (k + 1)).all lowB = s.all lowB by rw [← HF.out, HA.out, show lowB c = true by unfold lowB; rw [decide_eq_true (by omega : 97 ≤ c.toNat), decide_eq_true (by omega : c.toNat ≤ 122)]; rfl, Bool.true_and])
          have c2' : decide ((122 : Int) < (c.toNat : Int)) = false := decide_eq_false (by omega)
          clear HA c1 c2
          go_wp2
          go_round
          case rel => exact ⟨k + 1, by omega, by go_num, HN.out⟩
          case measure => simp [intOf]; omega
    · obtain rfl : k = s.length := by omega
      have HN := Lib.hid (show V = true by rw [HW.out, ← hf, List.drop_length]; rfl)
      clear hf
      go_wp2
      go_ret
      exact ⟨by rw [HN.out]; rfl, rfl⟩
end Go.Proofs.YtbngnmhbnhpbeaaDoor
