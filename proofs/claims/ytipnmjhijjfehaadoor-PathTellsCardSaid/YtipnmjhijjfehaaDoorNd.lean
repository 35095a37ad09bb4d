/- LAYER 14: the document's sign, Name. -/
import Derived.Test.YtipnmjhijjfehaaDoorNm
import Derived.Test.YtipnmjhijjfehaaDoorSs
import Derived.Test.YtipnmjhijjfehaaDoorB1
namespace Go.Proofs.YtipnmjhijjfehaaDoor
set_option maxRecDepth 100000
open Go Go.RowKit

theorem signB_nat (c : UInt8) : signB c = (decide (97 ≤ c.toNat ∧ c.toNat ≤ 122) || decide (65 ≤ c.toNat ∧ c.toNat ≤ 90) || decide (48 ≤ c.toNat ∧ c.toNat ≤ 57) || decide (c.toNat = 46) || decide (c.toNat = 95) || decide (c.toNat = 45)) := by
  unfold signB
  have e : ∀ d : UInt8, (c == d) = decide (c.toNat = d.toNat) := by
    intro d
    rw [Bool.eq_iff_iff, beq_iff_eq, decide_eq_true_iff]
    exact UInt8.toNat_inj.symm
  rw [e 46, e 95, e 45]
  rfl

set_option maxHeartbeats 2000000 in
theorem rsign_any (c : UInt8) (w : World) : Calls Tryd.prog 26 #[.int .u8 (c.toNat : Int)] w fun e w' => e = .returned (.bool (signB c)) ∧ w = w' := by
  have HV := Lib.hid (signB_nat c)
  have hbd := c.toNat_lt
  generalize signB c = V at *
  generalize c.toNat = n at *
  have key : ∀ (b : Bool), V = b → (∀ K : Prop, True) := fun _ _ _ => trivial
  clear key

  rcases (show 0 ≤ n ∧ n ≤ 44 ∨ n = 45 ∨ n = 46 ∨ n = 47 ∨ 48 ≤ n ∧ n ≤ 57 ∨ 58 ≤ n ∧ n ≤ 64 ∨ 65 ≤ n ∧ n ≤ 90 ∨ 91 ≤ n ∧ n ≤ 94 ∨ n = 95 ∨ n = 96 ∨ 97 ≤ n ∧ n ≤ 122 ∨ 123 ≤ n ∧ n ≤ 255 by omega) with h | h | h | h | h | h | h | h | h | h | h | h
  · have HW := Lib.hid (show V = false by rw [HV.out]; simp; omega)
    have a0 : (n : Int) < 97 := by omega
    have a1 : (n : Int) ≤ 122 := by omega
    have a2 : (n : Int) < 65 := by omega
    have a3 : (n : Int) ≤ 90 := by omega
    have a4 : (n : Int) < 48 := by omega
    have a5 : (n : Int) ≤ 57 := by omega
    have a6 : ((n : Int) == 46) = false := by rw [beq_eq_false_iff_ne]; omega
    have a7 : ((n : Int) == 95) = false := by rw [beq_eq_false_iff_ne]; omega
    have a8 : ((n : Int) == 45) = false := by rw [beq_eq_false_iff_ne]; omega
    clear HV h hbd
    go_enter Tryd.func26, Tryd.ntmps26
    go_wp2
    go_ret
    exact ⟨by rw [HW.out]; rfl, rfl⟩
  · have HW := Lib.hid (show V = true by rw [HV.out]; simp; omega)
    have a0 : (n : Int) < 97 := by omega
    have a1 : (n : Int) ≤ 122 := by omega
    have a2 : (n : Int) < 65 := by omega
    have a3 : (n : Int) ≤ 90 := by omega
    have a4 : (n : Int) < 48 := by omega
    have a5 : (n : Int) ≤ 57 := by omega
    have a6 : ((n : Int) == 46) = false := by rw [beq_eq_false_iff_ne]; omega
    have a7 : ((n : Int) == 95) = false := by rw [beq_eq_false_iff_ne]; omega
    have a8 : ((n : Int) == 45) = true := by rw [beq_iff_eq]; omega
    clear HV h hbd
    go_enter Tryd.func26, Tryd.ntmps26
    go_wp2
    go_ret
    exact ⟨by rw [HW.out]; rfl, rfl⟩
  · have HW := Lib.hid (show V = true by rw [HV.out]; simp; omega)
    have a0 : (n : Int) < 97 := by omega
    have a1 : (n : Int) ≤ 122 := by omega
    have a2 : (n : Int) < 65 := by omega
    have a3 : (n : Int) ≤ 90 := by omega
    have a4 : (n : Int) < 48 := by omega
    have a5 : (n : Int) ≤ 57 := by omega
    have a6 : ((n : Int) == 46) = true := by rw [beq_iff_eq]; omega
    have a7 : ((n : Int) == 95) = false := by rw [beq_eq_false_iff_ne]; omega
    have a8 : ((n : Int) == 45) = false := by rw [beq_eq_false_iff_ne]; omega
    clear HV h hbd
    go_enter Tryd.func26, Tryd.ntmps26
    go_wp2
    go_ret
    exact ⟨by rw [HW.out]; rfl, rfl⟩
  · have HW := Lib.hid (show V = false by rw [HV.out]; simp; omega)
    have a0 : (n : Int) < 97 := by omega
    have a1 : (n : Int) ≤ 122 := by omega
    have a2 : (n : Int) < 65 := by omega
    have a3 : (n : Int) ≤ 90 := by omega
    have a4 : (n : Int) < 48 := by omega
    have a5 : (n : Int) ≤ 57 := by omega
    have a6 : ((n : Int) == 46) = false := by rw [beq_eq_false_iff_ne]; omega
    have a7 : ((n : Int) == 95) = false := by rw [beq_eq_false_iff_ne]; omega
    have a8 : ((n : Int) == 45) = false := by rw [beq_eq_false_iff_ne]; omega
    clear HV h hbd
    go_enter Tryd.func26, Tryd.ntmps26
    go_wp2
    go_ret
    exact ⟨by rw [HW.out]; rfl, rfl⟩
  · have HW := Lib.hid (show V = true by rw [HV.out]; simp; omega)
    have a0 : (n : Int) < 97 := by omega
    have a1 : (n : Int) ≤ 122 := by omega
    have a2 : (n : Int) < 65 := by omega
    have a3 : (n : Int) ≤ 90 := by omega
    have a4 : (48 : Int) ≤ (n : Int) := by omega
    have a5 : (n : Int) ≤ 57 := by omega
    have a6 : ((n : Int) == 46) = false := by rw [beq_eq_false_iff_ne]; omega
    have a7 : ((n : Int) == 95) = false := by rw [beq_eq_false_iff_ne]; omega
    have a8 : ((n : Int) == 45) = false := by rw [beq_eq_false_iff_ne]; omega
    clear HV h hbd
    go_enter Tryd.func26, Tryd.ntmps26
    go_wp2
    go_ret
    exact ⟨by rw [HW.out]; rfl, rfl⟩
  · have HW := Lib.hid (show V = false by rw [HV.out]; simp; omega)
    have a0 : (n : Int) < 97 := by omega
    have a1 : (n : Int) ≤ 122 := by omega
    have a2 : (n : Int) < 65 := by omega
    have a3 : (n : Int) ≤ 90 := by omega
    have a4 : (48 : Int) ≤ (n : Int) := by omega
    have a5 : decide ((n : Int) ≤ 57) = false := by exact decide_eq_false (by omega)
    have a6 : ((n : Int) == 46) = false := by rw [beq_eq_false_iff_ne]; omega
    have a7 : ((n : Int) == 95) = false := by rw [beq_eq_false_iff_ne]; omega
    have a8 : ((n : Int) == 45) = false := by rw [beq_eq_false_iff_ne]; omega
    clear HV h hbd
    go_enter Tryd.func26, Tryd.ntmps26
    go_wp2
    go_ret
    exact ⟨by rw [HW.out]; rfl, rfl⟩
  · have HW := Lib.hid (show V = true by rw [HV.out]; simp; omega)
    have a0 : (n : Int) < 97 := by omega
    have a1 : (n : Int) ≤ 122 := by omega
    have a2 : (65 : Int) ≤ (n : Int) := by omega
    have a3 : (n : Int) ≤ 90 := by omega
    have a4 : (48 : Int) ≤ (n : Int) := by omega
    have a5 : decide ((n : Int) ≤ 57) = false := by exact decide_eq_false (by omega)
    have a6 : ((n : Int) == 46) = false := by rw [beq_eq_false_iff_ne]; omega
    have a7 : ((n : Int) == 95) = false := by rw [beq_eq_false_iff_ne]; omega
    have a8 : ((n : Int) == 45) = false := by rw [beq_eq_false_iff_ne]; omega
    clear HV h hbd
    go_enter Tryd.func26, Tryd.ntmps26
    go_wp2
    go_ret
    exact ⟨by rw [HW.out]; rfl, rfl⟩
  · have HW := Lib.hid (show V = false by rw [HV.out]; simp; omega)
    have a0 : (n : Int) < 97 := by omega
    have a1 : (n : Int) ≤ 122 := by omega
    have a2 : (65 : Int) ≤ (n : Int) := by omega
    have a3 : decide ((n : Int) ≤ 90) = false := by exact decide_eq_false (by omega)
    have a4 : (48 : Int) ≤ (n : Int) := by omega
    have a5 : decide ((n : Int) ≤ 57) = false := by exact decide_eq_false (by omega)
    have a6 : ((n : Int) == 46) = false := by rw [beq_eq_false_iff_ne]; omega
    have a7 : ((n : Int) == 95) = false := by rw [beq_eq_false_iff_ne]; omega
    have a8 : ((n : Int) == 45) = false := by rw [beq_eq_false_iff_ne]; omega
    clear HV h hbd
    go_enter Tryd.func26, Tryd.ntmps26
    go_wp2
    go_ret
    exact ⟨by rw [HW.out]; rfl, rfl⟩
  · have HW := Lib.hid (show V = true by rw [HV.out]; simp; omega)
    have a0 : (n : Int) < 97 := by omega
    have a1 : (n : Int) ≤ 122 := by omega
    have a2 : (65 : Int) ≤ (n : Int) := by omega
    have a3 : decide ((n : Int) ≤ 90) = false := by exact decide_eq_false (by omega)
    have a4 : (48 : Int) ≤ (n : Int) := by omega
    have a5 : decide ((n : Int) ≤ 57) = false := by exact decide_eq_false (by omega)
    have a6 : ((n : Int) == 46) = false := by rw [beq_eq_false_iff_ne]; omega
    have a7 : ((n : Int) == 95) = true := by rw [beq_iff_eq]; omega
    have a8 : ((n : Int) == 45) = false := by rw [beq_eq_false_iff_ne]; omega
    clear HV h hbd
    go_enter Tryd.func26, Tryd.ntmps26
    go_wp2
    go_ret
    exact ⟨by rw [HW.out]; rfl, rfl⟩
  · have HW := Lib.hid (show V = false by rw [HV.out]; simp; omega)
    have a0 : (n : Int) < 97 := by omega
    have a1 : (n : Int) ≤ 122 := by omega
    have a2 : (65 : Int) ≤ (n : Int) := by omega
    have a3 : decide ((n : Int) ≤ 90) = false := by exact decide_eq_false (by omega)
    have a4 : (48 : Int) ≤ (n : Int) := by omega
    have a5 : decide ((n : Int) ≤ 57) = false := by exact decide_eq_false (by omega)
    have a6 : ((n : Int) == 46) = false := by rw [beq_eq_false_iff_ne]; omega
    have a7 : ((n : Int) == 95) = false := by rw [beq_eq_false_iff_ne]; omega
    have a8 : ((n : Int) == 45) = false := by rw [beq_eq_false_iff_ne]; omega
    clear HV h hbd
    go_enter Tryd.func26, Tryd.ntmps26
    go_wp2
    go_ret
    exact ⟨by rw [HW.out]; rfl, rfl⟩
  · have HW := Lib.hid (show V = true by rw [HV.out]; simp; omega)
    have a0 : (97 : Int) ≤ (n : Int) := by omega
    have a1 : (n : Int) ≤ 122 := by omega
    have a2 : (65 : Int) ≤ (n : Int) := by omega
    have a3 : decide ((n : Int) ≤ 90) = false := by exact decide_eq_false (by omega)
    have a4 : (48 : Int) ≤ (n : Int) := by omega
    have a5 : decide ((n : Int) ≤ 57) = false := by exact decide_eq_false (by omega)
    have a6 : ((n : Int) == 46) = false := by rw [beq_eq_false_iff_ne]; omega
    have a7 : ((n : Int) == 95) = false := by rw [beq_eq_false_iff_ne]; omega
    have a8 : ((n : Int) == 45) = false := by rw [beq_eq_false_iff_ne]; omega
    clear HV h hbd
    go_enter Tryd.func26, Tryd.ntmps26
    go_wp2
    go_ret
    exact ⟨by rw [HW.out]; rfl, rfl⟩
  · have HW := Lib.hid (show V = false by rw [HV.out]; simp; omega)
    have a0 : (97 : Int) ≤ (n : Int) := by omega
    have a1 : decide ((n : Int) ≤ 122) = false := by exact decide_eq_false (by omega)
    have a2 : (65 : Int) ≤ (n : Int) := by omega
    have a3 : decide ((n : Int) ≤ 90) = false := by exact decide_eq_false (by omega)
    have a4 : (48 : Int) ≤ (n : Int) := by omega
    have a5 : decide ((n : Int) ≤ 57) = false := by exact decide_eq_false (by omega)
    have a6 : ((n : Int) == 46) = false := by rw [beq_eq_false_iff_ne]; omega
    have a7 : ((n : Int) == 95) = false := by rw [beq_eq_false_iff_ne]; omega
    have a8 : ((n : Int) == 45) = false := by rw [beq_eq_false_iff_ne]; omega
    clear HV h hbd
    go_enter Tryd.func26, Tryd.ntmps26
    go_wp2
    go_ret
    exact ⟨by rw [HW.out]; rfl, rfl⟩
theorem nameL_iff (s : List UInt8) : nameL s = (decide (1 ≤ s.length) && decide (s.length ≤ 64) && decide (s ≠ [46]) && decide (s ≠ [46, 46]) && s.all signB) := rfl
theorem all_at (s : List UInt8) (k : Nat) (h : k < s.length) : (s.drop k).all signB = (signB (s.getD k 0) && (s.drop (k + 1)).all signB) := by
  rw [List.drop_eq_getElem_cons h, List.all_cons, List.getD_eq_getElem?_getD, List.getElem?_eq_getElem h]; rfl
theorem bstr_is (l k : List UInt8) : ((bstr l).toList == k) = decide (l = k) := by
  rw [bstr_toList, Bool.eq_iff_iff, beq_iff_eq, decide_eq_true_iff]
set_option maxHeartbeats 2000000 in
theorem rname_any (s : List UInt8) (hs : s.length ≤ 100000) (w : World) : Calls Tryd.prog 19 #[.string (bstr s)] w fun e w' => e = .returned (.bool (nameL s)) ∧ w = w' := by
  have hz := size_bstr s
  have HV := Lib.hid (nameL_iff s)
  generalize nameL s = V at *
  by_cases h1 : s.length < 1
  · have HW := Lib.hid (show V = false by rw [HV.out, decide_eq_false (by omega : ¬ 1 ≤ s.length)]; rfl)
    have a1 : (s.length : Int) < 1 := by omega
    clear HV
    go_enter Tryd.func19, Tryd.ntmps19
    go_wp2
    go_ret
    exact ⟨by rw [HW.out]; rfl, rfl⟩
  have a1 : decide ((s.length : Int) < 1) = false := decide_eq_false (by omega)
  by_cases h2 : 64 < s.length
  · have HW := Lib.hid (show V = false by rw [HV.out, decide_eq_false (by omega : ¬ s.length ≤ 64), Bool.and_false]; rfl)
    have a2 : (64 : Int) < (s.length : Int) := by omega
    clear HV
    go_enter Tryd.func19, Tryd.ntmps19
    go_wp2
    go_ret
    exact ⟨by rw [HW.out]; rfl, rfl⟩
  have a2 : decide ((64 : Int) < (s.length : Int)) = false := decide_eq_false (by omega)
  have e1 := bstr_is s [46]
  have e2 := bstr_is s [46, 46]
  by_cases h3 : s = [46]
  · have HW := Lib.hid (show V = false by rw [HV.out, decide_eq_false (fun h => h h3 : ¬ s ≠ [46]), Bool.and_false]; rfl)
    rw [decide_eq_true h3] at e1
    clear HV h3 e2
    go_enter Tryd.func19, Tryd.ntmps19
    go_wp2
    go_ret
    exact ⟨by rw [HW.out]; rfl, rfl⟩
  rw [decide_eq_false h3] at e1
  by_cases h4 : s = [46, 46]
  · have HW := Lib.hid (show V = false by rw [HV.out, decide_eq_false (fun h => h h4 : ¬ s ≠ [46, 46]), Bool.and_false]; rfl)
    rw [decide_eq_true h4] at e2
    clear HV h4
    go_enter Tryd.func19, Tryd.ntmps19
    go_wp2
    go_ret
    exact ⟨by rw [HW.out]; rfl, rfl⟩
  rw [decide_eq_false h4] at e2
  have HW := Lib.hid (show V = s.all signB by rw [HV.out, decide_eq_true (show 1 ≤ s.length by omega), decide_eq_true (show s.length ≤ 64 by omega), decide_eq_true h3, decide_eq_true h4]; rfl)
  clear HV h3 h4 h1 h2
  have hcall := Lib.hid (fun c => rsign_any c w)
  go_enter Tryd.func19, Tryd.ntmps19
  go_wp2
  clear a1 a2 e1 e2
  go_loop [3] (fun i => ∃ k : Nat, k ≤ s.length ∧ i = .int .i64 k ∧ (s.drop k).all signB = s.all signB) (fun i => s.length - (intOf i).toNat)
  case atStart => exact ⟨0, by omega, rfl, rfl⟩
  case round =>
    obtain ⟨k, hk, rfl, hf⟩ := hrel
    by_cases hlt : k < s.length
    · have hlt' : (k : Int) < (s.length : Int) := by omega
      have hix := index_bstr s k hlt
      have HA := Lib.hid (all_at s k hlt)
      have HF := Lib.hid hf
      have hc := hcall.out (s.getD k 0)
      have HC := Lib.hid hc
      generalize s.getD k 0 = c at *
      clear hf hc
      cases hsg : signB c with
      | true =>
        have HN := Lib.hid (show (s.drop (k + 1)).all signB = s.all signB by rw [← HF.out, HA.out, hsg, Bool.true_and])
        rw [hsg] at HC
        clear HA hsg
        go_wp2_with (go_at_call 26; refine HC.out.mono ?_; rintro e w' ⟨rfl, rfl⟩)
        go_round
        case rel => exact ⟨k + 1, by omega, by go_num, HN.out⟩
        case measure => simp [intOf]; omega
      | false =>
        have HN := Lib.hid (show V = false by rw [HW.out, ← HF.out, HA.out, hsg, Bool.false_and])
        rw [hsg] at HC
        clear HA hsg
        go_wp2_with (go_at_call 26; refine HC.out.mono ?_; rintro e w' ⟨rfl, rfl⟩)
        go_ret
        exact ⟨by rw [HN.out]; rfl, rfl⟩
    · obtain rfl : k = s.length := by omega
      have HN := Lib.hid (show V = true by rw [HW.out, ← hf, List.drop_length]; rfl)
      clear hf
      go_wp2
      go_ret
      exact ⟨by rw [HN.out]; rfl, rfl⟩
end Go.Proofs.YtipnmjhijjfehaaDoor
