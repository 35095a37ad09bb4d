import Derived.Test.YtjieebmcbpdeiaaGreatDoorRaah
import Derived.Test.YtjieebmcbpdeiaaGreatDoorRaaa
import Derived.Test.YtjieebmcbpdeiaaGreatDoorRaaf
import Derived.Test.YtjieebmcbpdeiaaGreatDoorRaag
import Derived.ChangeKeysEq
import Derived.Laws.StructEq
import Derived.Test.YtjieebmcbpdeiaaGreatDoorRaab
import Derived.Test.YtjieebmcbpdeiaaGreatDoorRaae
import Derived.Test.YtjieebmcbpdeiaaGreatDoorRaad
namespace Go.Proofs.YtjieebmcbpdeiaaGreatDoor
set_option maxRecDepth 100000
open Go Go.RowKit
theorem signB_nat (c : UInt8) : signB c = (decide (97 ≤ c.toNat ∧ c.toNat ≤ 122) || decide (65 ≤ c.toNat ∧ c.toNat ≤ 90) || decide (48 ≤ c.toNat ∧ c.toNat ≤ 57) || decide (c.toNat = 46) || decide (c.toNat = 95) || decide (c.toNat = 45)) := by
 unfold signB
 have e : ∀ d : UInt8, (c == d) = decide (c.toNat = d.toNat) := by
  intro d
  rw [Bool.eq_iff_iff, beq_iff_eq, decide_eq_true_iff]
  exact UInt8.toNat_inj.symm
 rw [e 46, e 95, e 45]
 rfl
set_option maxHeartbeats 2000000 in
theorem rsign_any (c : UInt8) (w : World) : Calls Tryz.prog 105 #[.int .u8 (c.toNat : Int)] w fun e w' => e = .returned (.bool (signB c)) ∧ w = w' := by
 have HV := Lib.hid (signB_nat c)
 have hbd := c.toNat_lt
 generalize signB c = V at *
 generalize c.toNat = n at *
 have key : ∀ (b : Bool), V = b → (∀ K : Prop, True) := fun _ _ _ => trivial
 clear key
 rcases (show 0 ≤ n ∧ n ≤ 44 ∨ n = 45 ∨ n = 46 ∨ n = 47 ∨ 48 ≤ n ∧ n ≤ 57 ∨ 58 ≤ n ∧ n ≤ 64 ∨ 65 ≤ n ∧ n ≤ 90 ∨ 91 ≤ n ∧ n ≤ 94 ∨ n = 95 ∨ n = 96 ∨ 97 ≤ n ∧ n ≤ 122 ∨ 123 ≤ n ∧ n ≤ 255 by omega) with h | h | h | h | h | h | h | h | h | h | h | h
 ·have HW := Lib.hid (show V = false by rw [HV.out]; simp; omega)
  have a0 : (n : Int) < 97 := by omega
  have a1 : (n : Int) ≤ 122 := by omega
  have a2 : (n : Int) < 65 := by omega
  have a3 : (n : Int) ≤ 90 := by omega
  have a4 : (n : Int) < 48 := by omega
  have a5 : (n : Int) ≤ 57 := by omega
  have a6 : ((n : Int) == 46) = false := by rw [beq_eq_false_iff_ne]; omega
  have a7 : ((n : Int) == 95) = false := by rw [beq_eq_false_iff_ne]; omega
  have a8 : ((n : Int) == 45) = false := by rw [beq_eq_false_iff_ne]; omega
  clear HV h hbd
  go_enter Tryz.func105, Tryz.ntmps105
  go_wp2
  go_ret
  exact ⟨by rw [HW.out]; rfl, rfl⟩
 ·have HW := Lib.hid (show V = true by rw [HV.out]; simp; omega)
  have a0 : (n : Int) < 97 := by omega
  have a1 : (n : Int) ≤ 122 := by omega
  have a2 : (n : Int) < 65 := by omega
  have a3 : (n : Int) ≤ 90 := by omega
  have a4 : (n : Int) < 48 := by omega
  have a5 : (n : Int) ≤ 57 := by omega
  have a6 : ((n : Int) == 46) = false := by rw [beq_eq_false_iff_ne]; omega
  have a7 : ((n : Int) == 95) = false := by rw [beq_eq_false_iff_ne]; omega
  have a8 : ((n : Int) == 45) = true := by rw [beq_iff_eq]; omega
  clear HV h hbd
  go_enter Tryz.func105, Tryz.ntmps105
  go_wp2
  go_ret
  exact ⟨by rw [HW.out]; rfl, rfl⟩
 ·have HW := Lib.hid (show V = true by rw [HV.out]; simp; omega)
  have a0 : (n : Int) < 97 := by omega
  have a1 : (n : Int) ≤ 122 := by omega
  have a2 : (n : Int) < 65 := by omega
  have a3 : (n : Int) ≤ 90 := by omega
  have a4 : (n : Int) < 48 := by omega
  have a5 : (n : Int) ≤ 57 := by omega
  have a6 : ((n : Int) == 46) = true := by rw [beq_iff_eq]; omega
  have a7 : ((n : Int) == 95) = false := by rw [beq_eq_false_iff_ne]; omega
  have a8 : ((n : Int) == 45) = false := by rw [beq_eq_false_iff_ne]; omega
  clear HV h hbd
  go_enter Tryz.func105, Tryz.ntmps105
  go_wp2
  go_ret
  exact ⟨by rw [HW.out]; rfl, rfl⟩
 ·have HW := Lib.hid (show V = false by rw [HV.out]; simp; omega)
  have a0 : (n : Int) < 97 := by omega
  have a1 : (n : Int) ≤ 122 := by omega
  have a2 : (n : Int) < 65 := by omega
  have a3 : (n : Int) ≤ 90 := by omega
  have a4 : (n : Int) < 48 := by omega
  have a5 : (n : Int) ≤ 57 := by omega
  have a6 : ((n : Int) == 46) = false := by rw [beq_eq_false_iff_ne]; omega
  have a7 : ((n : Int) == 95) = false := by rw [beq_eq_false_iff_ne]; omega
  have a8 : ((n : Int) == 45) = false := by rw [beq_eq_false_iff_ne]; omega
  clear HV h hbd
  go_enter Tryz.func105, Tryz.ntmps105
  go_wp2
  go_ret
  exact ⟨by rw [HW.out]; rfl, rfl⟩
 ·have HW := Lib.hid (show V = true by rw [HV.out]; simp; omega)
  have a0 : (n : Int) < 97 := by omega
  have a1 : (n : Int) ≤ 122 := by omega
  have a2 : (n : Int) < 65 := by omega
  have a3 : (n : Int) ≤ 90 := by omega
  have a4 : (48 : Int) ≤ (n : Int) := by omega
  have a5 : (n : Int) ≤ 57 := by omega
  have a6 : ((n : Int) == 46) = false := by rw [beq_eq_false_iff_ne]; omega
  have a7 : ((n : Int) == 95) = false := by rw [beq_eq_false_iff_ne]; omega
  have a8 : ((n : Int) == 45) = false := by rw [beq_eq_false_iff_ne]; omega
  clear HV h hbd
  go_enter Tryz.func105, Tryz.ntmps105
  go_wp2
  go_ret
  exact ⟨by rw [HW.out]; rfl, rfl⟩
 ·have HW := Lib.hid (show V = false by rw [HV.out]; simp; omega)
  have a0 : (n : Int) < 97 := by omega
  have a1 : (n : Int) ≤ 122 := by omega
  have a2 : (n : Int) < 65 := by omega
  have a3 : (n : Int) ≤ 90 := by omega
  have a4 : (48 : Int) ≤ (n : Int) := by omega
  have a5 : decide ((n : Int) ≤ 57) = false := by exact decide_eq_false (by omega)
  have a6 : ((n : Int) == 46) = false := by rw [beq_eq_false_iff_ne]; omega
  have a7 : ((n : Int) == 95) = false := by rw [beq_eq_false_iff_ne]; omega
  have a8 : ((n : Int) == 45) = false := by rw [beq_eq_false_iff_ne]; omega
  clear HV h hbd
  go_enter Tryz.func105, Tryz.ntmps105
  go_wp2
  go_ret
  exact ⟨by rw [HW.out]; rfl, rfl⟩
 ·have HW := Lib.hid (show V = true by rw [HV.out]; simp; omega)
  have a0 : (n : Int) < 97 := by omega
  have a1 : (n : Int) ≤ 122 := by omega
  have a2 : (65 : Int) ≤ (n : Int) := by omega
  have a3 : (n : Int) ≤ 90 := by omega
  have a4 : (48 : Int) ≤ (n : Int) := by omega
  have a5 : decide ((n : Int) ≤ 57) = false := by exact decide_eq_false (by omega)
  have a6 : ((n : Int) == 46) = false := by rw [beq_eq_false_iff_ne]; omega
  have a7 : ((n : Int) == 95) = false := by rw [beq_eq_false_iff_ne]; omega
  have a8 : ((n : Int) == 45) = false := by rw [beq_eq_false_iff_ne]; omega
  clear HV h hbd
  go_enter Tryz.func105, Tryz.ntmps105
  go_wp2
  go_ret
  exact ⟨by rw [HW.out]; rfl, rfl⟩
 ·have HW := Lib.hid (show V = false by rw [HV.out]; simp; omega)
  have a0 : (n : Int) < 97 := by omega
  have a1 : (n : Int) ≤ 122 := by omega
  have a2 : (65 : Int) ≤ (n : Int) := by omega
  have a3 : decide ((n : Int) ≤ 90) = false := by exact decide_eq_false (by omega)
  have a4 : (48 : Int) ≤ (n : Int) := by omega
  have a5 : decide ((n : Int) ≤ 57) = false := by exact decide_eq_false (by omega)
  have a6 : ((n : Int) == 46) = false := by rw [beq_eq_false_iff_ne]; omega
  have a7 : ((n : Int) == 95) = false := by rw [beq_eq_false_iff_ne]; omega
  have a8 : ((n : Int) == 45) = false := by rw [beq_eq_false_iff_ne]; omega
  clear HV h hbd
  go_enter Tryz.func105, Tryz.ntmps105
  go_wp2
  go_ret
  exact ⟨by rw [HW.out]; rfl, rfl⟩
 ·have HW := Lib.hid (show V = true by rw [HV.out]; simp; omega)
  have a0 : (n : Int) < 97 := by omega
  have a1 : (n : Int) ≤ 122 := by omega
  have a2 : (65 : Int) ≤ (n : Int) := by omega
  have a3 : decide ((n : Int) ≤ 90) = false := by exact decide_eq_false (by omega)
  have a4 : (48 : Int) ≤ (n : Int) := by omega
  have a5 : decide ((n : Int) ≤ 57) = false := by exact decide_eq_false (by omega)
  have a6 : ((n : Int) == 46) = false := by rw [beq_eq_false_iff_ne]; omega
  have a7 : ((n : Int) == 95) = true := by rw [beq_iff_eq]; omega
  have a8 : ((n : Int) == 45) = false := by rw [beq_eq_false_iff_ne]; omega
  clear HV h hbd
  go_enter Tryz.func105, Tryz.ntmps105
  go_wp2
  go_ret
  exact ⟨by rw [HW.out]; rfl, rfl⟩
 ·have HW := Lib.hid (show V = false by rw [HV.out]; simp; omega)
  have a0 : (n : Int) < 97 := by omega
  have a1 : (n : Int) ≤ 122 := by omega
  have a2 : (65 : Int) ≤ (n : Int) := by omega
  have a3 : decide ((n : Int) ≤ 90) = false := by exact decide_eq_false (by omega)
  have a4 : (48 : Int) ≤ (n : Int) := by omega
  have a5 : decide ((n : Int) ≤ 57) = false := by exact decide_eq_false (by omega)
  have a6 : ((n : Int) == 46) = false := by rw [beq_eq_false_iff_ne]; omega
  have a7 : ((n : Int) == 95) = false := by rw [beq_eq_false_iff_ne]; omega
  have a8 : ((n : Int) == 45) = false := by rw [beq_eq_false_iff_ne]; omega
  clear HV h hbd
  go_enter Tryz.func105, Tryz.ntmps105
  go_wp2
  go_ret
  exact ⟨by rw [HW.out]; rfl, rfl⟩
 ·have HW := Lib.hid (show V = true by rw [HV.out]; simp; omega)
  have a0 : (97 : Int) ≤ (n : Int) := by omega
  have a1 : (n : Int) ≤ 122 := by omega
  have a2 : (65 : Int) ≤ (n : Int) := by omega
  have a3 : decide ((n : Int) ≤ 90) = false := by exact decide_eq_false (by omega)
  have a4 : (48 : Int) ≤ (n : Int) := by omega
  have a5 : decide ((n : Int) ≤ 57) = false := by exact decide_eq_false (by omega)
  have a6 : ((n : Int) == 46) = false := by rw [beq_eq_false_iff_ne]; omega
  have a7 : ((n : Int) == 95) = false := by rw [beq_eq_false_iff_ne]; omega
  have a8 : ((n : Int) == 45) = false := by rw [beq_eq_false_iff_ne]; omega
  clear HV h hbd
  go_enter Tryz.func105, Tryz.ntmps105
  go_wp2
  go_ret
  exact ⟨by rw [HW.out]; rfl, rfl⟩
 ·have HW := Lib.hid (show V = false by rw [HV.out]; simp; omega)
  have a0 : (97 : Int) ≤ (n : Int) := by omega
  have a1 : decide ((n : Int) ≤ 122) = false := by exact decide_eq_false (by omega)
  have a2 : (65 : Int) ≤ (n : Int) := by omega
  have a3 : decide ((n : Int) ≤ 90) = false := by exact decide_eq_false (by omega)
  have a4 : (48 : Int) ≤ (n : Int) := by omega
  have a5 : decide ((n : Int) ≤ 57) = false := by exact decide_eq_false (by omega)
  have a6 : ((n : Int) == 46) = false := by rw [beq_eq_false_iff_ne]; omega
  have a7 : ((n : Int) == 95) = false := by rw [beq_eq_false_iff_ne]; omega
  have a8 : ((n : Int) == 45) = false := by rw [beq_eq_false_iff_ne]; omega
  clear HV h hbd
  go_enter Tryz.func105, Tryz.ntmps105
  go_wp2
  go_ret
  exact ⟨by rw [HW.out]; rfl, rfl⟩
theorem nameL_iff (s : List UInt8) : nameL s = (decide (1 ≤ s.length) && decide (s.length ≤ 64) && decide (s ≠ [46]) && decide (s ≠ [46, 46]) && s.all signB) := rfl
theorem all_at (s : List UInt8) (k : Nat) (h : k < s.length) : (s.drop k).all signB = (signB (s.getD k 0) && (s.drop (k + 1)).all signB) := by
 rw [List.drop_eq_getElem_cons h, List.all_cons, List.getD_eq_getElem?_getD, List.getElem?_eq_getElem h]; rfl
theorem bstr_is (l k : List UInt8) : ((bstr l).toList == k) = decide (l = k) := by
 rw [bstr_toList, Bool.eq_iff_iff, beq_iff_eq, decide_eq_true_iff]
set_option maxHeartbeats 2000000 in
theorem rname_any (s : List UInt8) (hs : s.length ≤ 100000) (w : World) : Calls Tryz.prog 67 #[.string (bstr s)] w fun e w' => e = .returned (.bool (nameL s)) ∧ w = w' := by
 have hz := size_bstr s
 have HV := Lib.hid (nameL_iff s)
 generalize nameL s = V at *
 by_cases h1 : s.length < 1
 ·have HW := Lib.hid (show V = false by rw [HV.out, decide_eq_false (by omega : ¬ 1 ≤ s.length)]; rfl)
  have a1 : (s.length : Int) < 1 := by omega
  clear HV
  go_enter Tryz.func67, Tryz.ntmps67
  go_wp2
  go_ret
  exact ⟨by rw [HW.out]; rfl, rfl⟩
 have a1 : decide ((s.length : Int) < 1) = false := decide_eq_false (by omega)
 by_cases h2 : 64 < s.length
 ·have HW := Lib.hid (show V = false by rw [HV.out, decide_eq_false (by omega : ¬ s.length ≤ 64), Bool.and_false]; rfl)
  have a2 : (64 : Int) < (s.length : Int) := by omega
  clear HV
  go_enter Tryz.func67, Tryz.ntmps67
  go_wp2
  go_ret
  exact ⟨by rw [HW.out]; rfl, rfl⟩
 have a2 : decide ((64 : Int) < (s.length : Int)) = false := decide_eq_false (by omega)
 have e1 := bstr_is s [46]
 have e2 := bstr_is s [46, 46]
 by_cases h3 : s = [46]
 ·have HW := Lib.hid (show V = false by rw [HV.out, decide_eq_false (fun h => h h3 : ¬ s ≠ [46]), Bool.and_false]; rfl)
  rw [decide_eq_true h3] at e1
  clear HV h3 e2
  go_enter Tryz.func67, Tryz.ntmps67
  go_wp2
  go_ret
  exact ⟨by rw [HW.out]; rfl, rfl⟩
 rw [decide_eq_false h3] at e1
 by_cases h4 : s = [46, 46]
 ·have HW := Lib.hid (show V = false by rw [HV.out, decide_eq_false (fun h => h h4 : ¬ s ≠ [46, 46]), Bool.and_false]; rfl)
  rw [decide_eq_true h4] at e2
  clear HV h4
  go_enter Tryz.func67, Tryz.ntmps67
  go_wp2
  go_ret
  exact ⟨by rw [HW.out]; rfl, rfl⟩
 rw [decide_eq_false h4] at e2
 have HW := Lib.hid (show V = s.all signB by rw [HV.out, decide_eq_true (show 1 ≤ s.length by omega), decide_eq_true (show s.length ≤ 64 by omega), decide_eq_true h3, decide_eq_true h4]; rfl)
 clear HV h3 h4 h1 h2
 have hcall := Lib.hid (fun c => rsign_any c w)
 go_enter Tryz.func67, Tryz.ntmps67
 go_wp2
 clear a1 a2 e1 e2
 go_loop [3] (fun i => ∃ k : Nat, k ≤ s.length ∧ i = .int .i64 k ∧ (s.drop k).all signB = s.all signB) (fun i => s.length - (intOf i).toNat)
 case atStart => exact ⟨0, by omega, rfl, rfl⟩
 case round =>
  obtain ⟨k, hk, rfl, hf⟩ := hrel
  by_cases hlt : k < s.length
  ·have hlt' : (k : Int) < (s.length : Int) := by omega
   have hix := index_bstr s k hlt
   have HA := Lib.hid (all_at s k hlt)
   have HF := Lib.hid hf
   have hc := hcall.out (s.getD k 0)
   have HC := Lib.hid hc
   generalize s.getD k 0 = c at *
   clear hf hc
   cases hsg : signB c with
   | true =>
    have HN := Lib.hid (show (s.drop (k + 1)).all signB = s.all signB by rw [← HF.out, HA.out, hsg, Bool.true_and])
    rw [hsg] at HC
    clear HA hsg
    go_wp2_with (go_at_call 105; refine HC.out.mono ?_; rintro e w' ⟨rfl, rfl⟩)
    go_round
    case rel => exact ⟨k + 1, by omega, by go_num, HN.out⟩
    case measure => simp [intOf]; omega
   | false =>
    have HN := Lib.hid (show V = false by rw [HW.out, ← HF.out, HA.out, hsg, Bool.false_and])
    rw [hsg] at HC
    clear HA hsg
    go_wp2_with (go_at_call 105; refine HC.out.mono ?_; rintro e w' ⟨rfl, rfl⟩)
    go_ret
    exact ⟨by rw [HN.out]; rfl, rfl⟩
  ·obtain rfl : k = s.length := by omega
   have HN := Lib.hid (show V = true by rw [HW.out, ← hf, List.drop_length]; rfl)
   clear hf
   go_wp2
   go_ret
   exact ⟨by rw [HN.out]; rfl, rfl⟩
set_option maxHeartbeats 2000000 in
theorem rpieces_any (s : List UInt8) (hs : s.length ≤ 1000) (w : World) :
  Calls Tryz.prog 66 #[.string (bstr s)] w fun e w' => ∃ v, e = .returned v ∧ w'.ownsRow w.heap.size 9 1 v (splitL 47 s).length (strsV (splitL 47 s)) ∧ Below w.heap.size w w' := by
 obtain ⟨i0, hi, hz0, hz1, hz2⟩ := info_parts infoStr
 have hz := size_bstr s
 have hown0 : (w.alloc (.cells #[] 9)).ownsRow w.heap.size 9 1 (.slice (some ⟨w.heap.size, 0, none⟩) 0 0) 0 (strsV []) := World.ownsRow_lit w (e := 9) (size := 1) #[] 0 (Nat.le_refl _) (by unfold maxLen; omega) rfl
 have hb0 : Below w.heap.size w (w.alloc (.cells #[] 9)) := (Below.refl _ w).alloc (Nat.le_refl _) _
 go_enter Tryz.func66, Tryz.ntmps66
 go_wp2
 go_loopw [3, 4, 5] (fun v f i wr => ∃ (out : List (List UInt8)) (g k : Nat), k ≤ s.length + 1 ∧ g ≤ k ∧ i = .int .i64 k ∧ f = .int .i64 g ∧ wr.ownsRow w.heap.size 9 1 v out.length (strsV out) ∧ Below w.heap.size w wr ∧ out.length ≤ k ∧
   (k ≤ s.length ∧ out ++ splitL 47 (s.drop g) = splitL 47 s ∧ (∀ c ∈ (s.drop g).take (k - g), c ≠ 47) ∨ k = s.length + 1 ∧ out = splitL 47 s)) (fun _ _ i _ => s.length + 1 - (intOf i).toNat)
 case atStart => exact ⟨[], 0, 0, by omega, by omega, rfl, rfl, hown0, hb0, by simp, .inl ⟨by omega, rfl, by simp⟩⟩
 case round =>
  clear hown0 hb0
  obtain ⟨out, g, k, hk, hg, rfl, rfl, hown, hb, hol, hcase⟩ := hrel
  by_cases hlt : k ≤ s.length
  ·obtain ⟨-, hsp, hno⟩ : k ≤ s.length ∧ out ++ splitL 47 (s.drop g) = splitL 47 s ∧ (∀ c ∈ (s.drop g).take (k - g), c ≠ 47) := by
    rcases hcase with h | ⟨h, _⟩
    ·exact h
    ·omega
   have hlt' : (k : Int) ≤ (s.length : Int) := by omega
   have hg' : (g : Int) ≤ (k : Int) := by omega
   have hex := extract_bstr12 s g k
   have hbs := hb.size
   have n1 : out.length + 1 ≤ maxLen := by unfold maxLen; omega
   have n2 : (out.length + 1) * 16 ≤ 140737488355328 := by omega
   by_cases he : k = s.length
   ·have heb : ((k : Int) == (s.length : Int)) = true := by rw [he]; exact beq_self_eq_true _
    have HF := Lib.hid (show out ++ [(s.drop g).take (k - g)] = splitL 47 s by
     have e : (s.drop g).take (k - g) = s.drop g := by rw [List.take_of_length_le]; rw [List.length_drop]; omega
     rw [e] at hno ⊢
     rw [← hsp, splitL_end 47 _ hno])
    have HK := Lib.hid he
    generalize (s.drop g).take (k - g) = p at *
    clear hcase hsp hno he
    have hslp : Sl (wr.alloc (.cells #[.string (bstr p)] 9)) (some ⟨wr.heap.size, 0, none⟩) 1 (strsV [p]) := sl_made (strsV [p]) rfl 1 rfl
    have howna := hown.alloc (.cells #[.string (bstr p)] 9)
    have hbe := hb.alloc hb.size (.cells #[.string (bstr p)] 9)
    go_wp2_with (at_builtin; refine wpList_append_sl rfl (.tmp 23) (.tmp 28) 23 rfl w.heap.size 9 i0 _ 16 Tryz.underlying23 hi hz0 hz1 hz2 rfl _ out.length (strsV out) rfl howna (some ⟨wr.heap.size, 0, none⟩) 1 1 (strsV [p]) rfl rfl hslp (strsV_one _) n1 n2 hbe.size ?_; intro v3 w3 hown3 hg3; have hb3 := hbe.grown hg3 hbe.size (fun j hj => (howna.lt j hj).1); rw [← strsV_append] at hown3)
    go_roundw
    case rel => exact ⟨out ++ [p], k + 1, k + 1, by omega, by omega, by go_num, by go_num, by rw [List.length_append]; exact hown3, hb3, by rw [List.length_append]; simp; omega, .inr ⟨by rw [HK.out], HF.out⟩⟩
    case measure => simp [intOf]; omega
   ·have heb : ((k : Int) == (s.length : Int)) = false := by rw [beq_eq_false_iff_ne]; omega
    have hlt2 : k < s.length := by omega
    have hix := index_bstr s k hlt2
    by_cases hc : s.getD k 0 = 47
    ·have e2 : splitL 47 (s.drop g) = (s.drop g).take (k - g) :: splitL 47 (s.drop (k + 1)) := by
      conv => lhs; rw [drop_piece s g k hg hlt2, hc]
      exact splitL_hit 47 _ _ hno
     have HF := Lib.hid (show (out ++ [(s.drop g).take (k - g)]) ++ splitL 47 (s.drop (k + 1)) = splitL 47 s by
      rw [← hsp, e2, List.append_assoc]; rfl)
     rw [hc] at hix
     generalize (s.drop g).take (k - g) = p at *
     clear hcase hsp hno hc e2
     have hslp : Sl (wr.alloc (.cells #[.string (bstr p)] 9)) (some ⟨wr.heap.size, 0, none⟩) 1 (strsV [p]) := sl_made (strsV [p]) rfl 1 rfl
     have howna := hown.alloc (.cells #[.string (bstr p)] 9)
     have hbe := hb.alloc hb.size (.cells #[.string (bstr p)] 9)
     go_wp2_with (at_builtin; refine wpList_append_sl rfl (.tmp 23) (.tmp 28) 23 rfl w.heap.size 9 i0 _ 16 Tryz.underlying23 hi hz0 hz1 hz2 rfl _ out.length (strsV out) rfl howna (some ⟨wr.heap.size, 0, none⟩) 1 1 (strsV [p]) rfl rfl hslp (strsV_one _) n1 n2 hbe.size ?_; intro v3 w3 hown3 hg3; have hb3 := hbe.grown hg3 hbe.size (fun j hj => (howna.lt j hj).1); rw [← strsV_append] at hown3)
     go_roundw
     case rel => exact ⟨out ++ [p], k + 1, k + 1, by omega, by omega, by go_num, by go_num, by rw [List.length_append]; exact hown3, hb3, by rw [List.length_append]; simp; omega, .inl ⟨by omega, HF.out, by simp⟩⟩
     case measure => simp [intOf]; omega
    ·have HN := Lib.hid (show ∀ c ∈ (s.drop g).take (k + 1 - g), c ≠ 47 by
      rw [take_piece s g k hg hlt2]
      intro c hcm
      rcases List.mem_append.1 hcm with h | h
      ·exact hno c h
      ·rw [List.mem_singleton.1 h]; exact hc)
     have HS := Lib.hid hsp
     have hxc : (((s.getD k 0).toNat : Int) == 47) = false := by
      rw [beq_eq_false_iff_ne]
      intro h
      exact hc (UInt8.toNat_inj.1 (by rw [show (47 : UInt8).toNat = 47 from rfl]; omega))
     generalize s.getD k 0 = y at *
     clear hcase hsp hno hc hex
     go_wp2
     go_roundw
     case rel => exact ⟨out, g, k + 1, by omega, by omega, by go_num, rfl, hown, hb, by omega, .inl ⟨by omega, HS.out, HN.out⟩⟩
     case measure => simp [intOf]; omega
  ·obtain rfl : k = s.length + 1 := by omega
   obtain rfl : out = splitL 47 s := by
    rcases hcase with ⟨h, _⟩ | ⟨_, h⟩
    ·omega
    ·exact h
   have hgt : (s.length : Int) < ((s.length + 1 : Nat) : Int) := by omega
   clear hcase
   go_wp2
   go_ret
   exact ⟨_, rfl, hown, hb⟩
theorem rightL_far (p : List UInt8) (h : 256 < p.length) : rightL p = false := by
 match p, h with
 | c :: r, h =>
  by_cases hc : c = 47
  ·subst hc
   show (decide (r = []) || (decide (r.length + 1 ≤ 256) && (splitL 47 r).all nameL)) = false
   rw [List.length_cons] at h
   rw [decide_eq_false (by omega : ¬ r.length + 1 ≤ 256), decide_eq_false (by rintro rfl; simp at h)]; rfl
  ·unfold rightL
   split
   ·rename_i e; exact absurd (List.cons.inj e).1 hc
   ·rfl
theorem rightL_head (p : List UInt8) (h : p.getD 0 0 ≠ 47) : rightL p = false := by
 unfold rightL
 split
 ·exact absurd rfl h
 ·rfl
theorem rightL_names (r : List UInt8) (h : r ≠ []) (hl : r.length + 1 ≤ 256) : rightL (47 :: r) = (splitL 47 r).all nameL := by
 show (decide (r = []) || (decide (r.length + 1 ≤ 256) && (splitL 47 r).all nameL)) = _
 rw [decide_eq_false h, decide_eq_true hl]; rfl
theorem tail_bstr (x : UInt8) (r : List UInt8) (n : Nat) (h : n = r.length + 1) : (bstr (x :: r)).extract 1 n = bstr r := by
 subst h
 rw [extract_bstr12, List.drop_succ_cons, List.drop_zero, Nat.add_sub_cancel, List.take_length]
theorem alln_at (ps : List (List UInt8)) (k : Nat) (h : k < ps.length) : (ps.drop k).all nameL = (nameL (ps.getD k []) && (ps.drop (k + 1)).all nameL) := by
 rw [List.drop_eq_getElem_cons h, List.all_cons, List.getD_eq_getElem?_getD, List.getElem?_eq_getElem h]; rfl
set_option maxHeartbeats 2000000 in
theorem rright_any (p : List UInt8) (hp : p.length ≤ 100000) (w : World) : Calls Tryz.prog 68 #[.string (bstr p)] w fun e w' => e = .returned (.bool (rightL p)) ∧ Below w.heap.size w w' := by
 have hz := size_bstr p
 obtain ⟨V, hV⟩ : ∃ V, V = rightL p := ⟨_, rfl⟩
 have HV := Lib.hid hV
 rw [← hV]
 clear hV
 have e1 := bstr_is p [47]
 by_cases h1 : p = [47]
 ·have HW := Lib.hid (show V = true by rw [HV.out, h1]; rfl)
  rw [decide_eq_true h1] at e1
  clear HV h1
  go_enter Tryz.func68, Tryz.ntmps68
  go_wp2
  go_ret
  exact ⟨by rw [HW.out]; rfl, Below.refl _ _⟩
 rw [decide_eq_false h1] at e1
 by_cases h2 : 256 < p.length
 ·have HW := Lib.hid (show V = false by rw [HV.out]; exact rightL_far p h2)
  have a1 : (256 : Int) < (p.length : Int) := by omega
  clear HV h1
  go_enter Tryz.func68, Tryz.ntmps68
  go_wp2
  go_ret
  exact ⟨by rw [HW.out]; rfl, Below.refl _ _⟩
 have a1 : decide ((256 : Int) < (p.length : Int)) = false := decide_eq_false (by omega)
 by_cases h3 : p = []
 ·have HW := Lib.hid (show V = false by rw [HV.out, h3]; rfl)
  have a2 : ((p.length : Int) == 0) = true := by rw [h3]; rfl
  clear HV h1 h3
  go_enter Tryz.func68, Tryz.ntmps68
  go_wp2
  go_ret
  exact ⟨by rw [HW.out]; rfl, Below.refl _ _⟩
 have hpos : 0 < p.length := List.length_pos_iff.2 h3
 have a2 : ((p.length : Int) == 0) = false := by rw [beq_eq_false_iff_ne]; omega
 have hix : ∀ w', (Instr.index 9 (.string (bstr p)) (.int .i64 0)).run Tryz.prog w' = .ok (.int .u8 ((p.getD 0 0).toNat : Int)) w' := fun w' => index_bstr p 0 hpos w'
 by_cases h4 : p.getD 0 0 = 47
 ·obtain ⟨r, rfl⟩ : ∃ r, p = 47 :: r := by
   cases p with
   | nil => exact absurd rfl h3
   | cons c r => exact ⟨r, by rw [show c = 47 from h4]⟩
  have hr : r ≠ [] := fun h => h1 (by rw [h])
  have hrl : r.length + 1 ≤ 256 := by rw [List.length_cons] at h2; omega
  have HW := Lib.hid (show V = (splitL 47 r).all nameL by rw [HV.out]; exact rightL_names r hr hrl)
  rw [h4] at hix
  have a4 : ((47 : UInt8).toNat : Int) = 47 := rfl
  rw [a4] at hix
  have hex := tail_bstr 47 r (r.length + 1) rfl
  have hcp := Lib.hid (rpieces_any r (by omega) w)
  have hnm := Lib.hid (fun s (h : s ∈ splitL 47 r) w' => rname_any s (by have := splitL_piece 47 r s h; omega) w')
  have hlen := splitL_len 47 r
  generalize bstr (47 :: r) = P at *
  rw [List.length_cons] at hz
  have a1 : decide ((256 : Int) < (r.length : Int) + 1) = false := decide_eq_false (by omega)
  have a2 : ((r.length : Int) + 1 == 0) = false := by rw [beq_eq_false_iff_ne]; omega
  clear HV h1 h2 h3 h4 hr hpos a4 hp
  generalize splitL 47 r = ps at *
  go_enter Tryz.func68, Tryz.ntmps68
  go_wp2_with (go_at_call 66; refine hcp.out.mono ?_; rintro e w1 ⟨v, rfl, hown, hb1⟩; obtain ⟨A, c, rfl, hpl, hsl⟩ := Sl.of_own hown; clear hpl)
  clear a1 a2 e1 hix hex hz hown hcp
  go_loop [24] (fun i => ∃ k : Nat, k ≤ ps.length ∧ i = .int .i64 k ∧ (ps.drop k).all nameL = ps.all nameL) (fun i => ps.length - (intOf i).toNat)
  case atStart => exact ⟨0, by omega, rfl, rfl⟩
  case round =>
   obtain ⟨k, hk, rfl, hf⟩ := hrel
   by_cases hlt : k < ps.length
   ·have hlt' : (k : Int) < (ps.length : Int) := by omega
    obtain ⟨b, o, rfl, -, -⟩ := hsl.rd.get (i := k) (by rw [length_strsV]; exact hlt)
    have hix := index_strs (some ⟨b, o, none⟩) b o ps.length c k rfl hlt
    have hce := strs_cell hsl k hlt
    have HA := Lib.hid (alln_at ps k hlt)
    have HF := Lib.hid hf
    have HC := Lib.hid (hnm.out (ps.getD k []) (by rw [List.getD_eq_getElem?_getD, List.getElem?_eq_getElem hlt]; exact List.getElem_mem hlt) w1)
    generalize ps.getD k [] = s at *
    clear hf
    cases hsg : nameL s with
    | true =>
     have HN := Lib.hid (show (ps.drop (k + 1)).all nameL = ps.all nameL by rw [← HF.out, HA.out, hsg, Bool.true_and])
     rw [hsg] at HC
     clear HA hsg
     go_wp2_with (go_at_call 67; refine HC.out.mono ?_; rintro e w' ⟨rfl, rfl⟩)
     go_round
     case rel => exact ⟨k + 1, by omega, by go_num, HN.out⟩
     case measure => simp [intOf]; omega
    | false =>
     have HN := Lib.hid (show V = false by rw [HW.out, ← HF.out, HA.out, hsg, Bool.false_and])
     rw [hsg] at HC
     clear HA hsg
     go_wp2_with (go_at_call 67; refine HC.out.mono ?_; rintro e w' ⟨rfl, rfl⟩)
     go_ret
     exact ⟨by rw [HN.out]; rfl, hb1⟩
   ·obtain rfl : k = ps.length := by omega
    have HN := Lib.hid (show V = true by rw [HW.out, ← hf, List.drop_length]; rfl)
    clear hf
    go_wp2
    go_ret
    exact ⟨by rw [HN.out]; rfl, hb1⟩
 ·have HW := Lib.hid (show V = false by rw [HV.out]; exact rightL_head p h4)
  have a3 : (((p.getD 0 0).toNat : Int) == 47) = false := by
   rw [beq_eq_false_iff_ne]
   intro h
   exact h4 (UInt8.toNat_inj.1 (by rw [show (47 : UInt8).toNat = 47 from rfl]; omega))
  generalize p.getD 0 0 = y at *
  clear HV h1 h2 h3 h4
  go_enter Tryz.func68, Tryz.ntmps68
  go_wp2
  go_ret
  exact ⟨by rw [HW.out]; rfl, Below.refl _ _⟩
theorem underL_right (top p : List UInt8) (h1 : rightL top = true) (h2 : rightL p = true) : underL top p = (decide (top = [47]) || decide (p = top) || (decide (top.length < p.length) && decide (p.take top.length = top) && decide (p.getD top.length 0 = 47))) := by
 unfold underL; rw [h1, h2]; rfl
set_option maxHeartbeats 4000000 in
theorem runder_any (top p : List UInt8) (ht : top.length ≤ 1000) (hp : p.length ≤ 1000) (w : World) : Calls Tryz.prog 35 #[.string (bstr top), .string (bstr p)] w fun e w' => e = .returned (.bool (underL top p)) ∧ Below w.heap.size w w' := by
 have hzp := size_bstr p
 have hzt := size_bstr top
 have hr1 := rright_any top (by omega) w
 have hr2 := fun w' => rright_any p (by omega) w'
 obtain ⟨V, hV⟩ : ∃ V, V = underL top p := ⟨_, rfl⟩
 have HV := Lib.hid hV
 rw [← hV]
 clear hV
 cases h1 : rightL top with
 | false =>
  rw [h1] at hr1
  have HR := Lib.hid hr1
  have HW := Lib.hid (show V = false by rw [HV.out]; unfold underL; rw [h1]; rfl)
  clear h1 hr1 hr2 HV
  go_enter Tryz.func35, Tryz.ntmps35
  go_wp2_with (go_at_call 68; refine HR.out.mono ?_; rintro e w1 ⟨rfl, hb1⟩)
  go_ret
  exact ⟨by rw [HW.out]; rfl, hb1⟩
 | true =>
  rw [h1] at hr1
  have HR1 := Lib.hid hr1
  clear hr1
  cases h2 : rightL p with
  | false =>
   rw [h2] at hr2
   have HR2 := Lib.hid hr2
   have HW := Lib.hid (show V = false by rw [HV.out]; unfold underL; rw [h2, Bool.and_false, Bool.false_and])
   have tok := trivial
   clear h1 h2 hr2 HV
   go_enter Tryz.func35, Tryz.ntmps35
   go_wp2_with (first
    | (go_at_call 68; have _t := tok; refine HR1.out.mono ?_; rintro e w1 ⟨rfl, hb1⟩; clear tok HR1)
    | (go_at_call 68; refine (HR2.out _).mono ?_; rintro e w2 ⟨rfl, hb2⟩))
   go_ret
   exact ⟨by rw [HW.out]; rfl, hb1.trans (hb2.mono hb1.size)⟩
  | true =>
   rw [h2] at hr2
   have HR2 := Lib.hid hr2
   have HW := Lib.hid (HV.out.trans (underL_right top p h1 h2))
   clear h1 h2 hr2 HV
   have e1 := bstr_is top [47]
   have tok := trivial
   by_cases c1 : top = [47]
   ·have HX := Lib.hid (show V = true by rw [HW.out, decide_eq_true c1]; rfl)
    rw [decide_eq_true c1] at e1
    clear HW c1
    go_enter Tryz.func35, Tryz.ntmps35
    go_wp2_with (first
     | (go_at_call 68; have _t := tok; refine HR1.out.mono ?_; rintro e w1 ⟨rfl, hb1⟩; clear tok HR1)
     | (go_at_call 68; refine (HR2.out _).mono ?_; rintro e w2 ⟨rfl, hb2⟩))
    go_ret
    exact ⟨by rw [HX.out]; rfl, hb1.trans (hb2.mono hb1.size)⟩
   rw [decide_eq_false c1] at e1 HW
   have e2 := bstr_beq p top
   by_cases c2 : p = top
   ·have HX := Lib.hid (show V = true by rw [HW.out, decide_eq_true c2]; rfl)
    rw [decide_eq_true c2] at e2
    clear HW c1 c2
    go_enter Tryz.func35, Tryz.ntmps35
    go_wp2_with (first
     | (go_at_call 68; have _t := tok; refine HR1.out.mono ?_; rintro e w1 ⟨rfl, hb1⟩; clear tok HR1)
     | (go_at_call 68; refine (HR2.out _).mono ?_; rintro e w2 ⟨rfl, hb2⟩))
    go_ret
    exact ⟨by rw [HX.out]; rfl, hb1.trans (hb2.mono hb1.size)⟩
   rw [decide_eq_false c2] at e2 HW
   by_cases c3 : top.length < p.length
   ·have a3 : (top.length : Int) < (p.length : Int) := by omega
    rw [decide_eq_true c3] at HW
    have hex := extract_bstr12 p 0 top.length
    rw [List.drop_zero, Nat.sub_zero] at hex
    have hix := index_bstr p top.length c3
    have e3 := bstr_beq (p.take top.length) top
    have HD := Lib.hid (show V = (decide (p.take top.length = top) && decide (p.getD top.length 0 = 47)) by rw [HW.out]; rfl)
    generalize p.take top.length = q at *
    generalize p.getD top.length 0 = y at *
    clear HW c1 c2 c3
    have e4 : ((y.toNat : Int) == 47) = decide (y = 47) := by
     rw [Bool.eq_iff_iff, beq_iff_eq, decide_eq_true_iff, ← UInt8.toNat_inj, show (47 : UInt8).toNat = 47 from rfl]
     omega
    generalize bstr q = Q at *
    generalize decide (q = top) = D1 at *
    generalize decide (y = 47) = D2 at *
    cases D1 with
    | false =>
     have HX := Lib.hid (show V = false by rw [HD.out]; rfl)
     clear HD
     go_enter Tryz.func35, Tryz.ntmps35
     go_wp2_with (first
      | (go_at_call 68; have _t := tok; refine HR1.out.mono ?_; rintro e w1 ⟨rfl, hb1⟩; clear tok HR1)
      | (go_at_call 68; refine (HR2.out _).mono ?_; rintro e w2 ⟨rfl, hb2⟩))
     go_ret
     exact ⟨by rw [HX.out]; rfl, hb1.trans (hb2.mono hb1.size)⟩
    | true =>
     have HX := Lib.hid (show V = D2 by rw [HD.out]; rfl)
     clear HD
     go_enter Tryz.func35, Tryz.ntmps35
     go_wp2_with (first
      | (go_at_call 68; have _t := tok; refine HR1.out.mono ?_; rintro e w1 ⟨rfl, hb1⟩; clear tok HR1)
      | (go_at_call 68; refine (HR2.out _).mono ?_; rintro e w2 ⟨rfl, hb2⟩))
     go_ret
     exact ⟨by rw [HX.out]; rfl, hb1.trans (hb2.mono hb1.size)⟩
   ·have a3 : (p.length : Int) ≤ (top.length : Int) := by omega
    have HX := Lib.hid (show V = false by rw [HW.out, decide_eq_false c3]; rfl)
    clear HW c1 c2 c3
    go_enter Tryz.func35, Tryz.ntmps35
    go_wp2_with (first
     | (go_at_call 68; have _t := tok; refine HR1.out.mono ?_; rintro e w1 ⟨rfl, hb1⟩; clear tok HR1)
     | (go_at_call 68; refine (HR2.out _).mono ?_; rintro e w2 ⟨rfl, hb2⟩))
    go_ret
    exact ⟨by rw [HX.out]; rfl, hb1.trans (hb2.mono hb1.size)⟩
def prdV (p : Prd) (A : Option Addr) (c : Nat) : List Value := [.int .i64 p.kind, .int .u64 (p.time : Int), .slice A p.names.length c, .string (bstr p.path)] ++ (rngV p.net ++ [.float .f64 p.cost])
theorem length_prdV (p : Prd) (h : p.net.a.Ok) (A : Option Addr) (c : Nat) : (prdV p A c).length = 23 := by
 unfold prdV
 rw [List.length_append, List.length_append, length_rngV' _ h]; rfl
theorem size_prd : (Tryz.prog.info? 31).map (·.size) = some 23 := by kernel_rfl
theorem prd_cells {w : World} {g : Nat} {t : TypeId} {p : Prd} {A : Option Addr} {c : Nat} (hn : p.net.a.Ok) (h : Row w g t (prdV p A c)) :
  w.cell? ⟨g, 0, none⟩ = some (.int .i64 p.kind) ∧ w.cell? ⟨g, 1, none⟩ = some (.int .u64 (p.time : Int)) ∧ w.cell? ⟨g, 2, none⟩ = some (.slice A p.names.length c) ∧ w.cell? ⟨g, 3, none⟩ = some (.string (bstr p.path)) ∧
  w.rangeAt g 4 (rngV p.net) ∧ w.cell? ⟨g, 22, none⟩ = some (.float .f64 p.cost) := by
 refine ⟨by rw [h.cell]; rfl, by rw [h.cell]; rfl, by rw [h.cell]; rfl, by rw [h.cell]; rfl, range_of_row (A := [_, _, _, _]) (B := rngV p.net) (C := [.float .f64 p.cost]) h, ?_⟩
 rw [h.cell]
 unfold prdV
 rw [List.getElem?_append_right (by simp), List.getElem?_append_right (by rw [length_rngV' _ hn]; simp), length_rngV' _ hn]
 rfl
structure PrdAt (w : World) (p : Prd) (A : Option Addr) (c : Nat) : Prop where
 ok : p.Ok
 names : Sl w A c (strsV p.names)
 lo : -9223372036854775808 ≤ p.kind
 hi : p.kind ≤ 9223372036854775807
 path : p.path.length ≤ 4000
 sum : sumS p.names ≤ 4000
theorem prd_at (p : Prd) (A : Option Addr) (c : Nat) (hn : p.net.a.Ok) : (prdV p A c)[0]? = some (.int .i64 p.kind) ∧ (prdV p A c)[1]? = some (.int .u64 (p.time : Int)) ∧ (prdV p A c)[2]? = some (.slice A p.names.length c) ∧ (prdV p A c)[3]? = some (.string (bstr p.path)) ∧ (prdV p A c)[22]? = some (.float .f64 p.cost) := by
 refine ⟨rfl, rfl, rfl, rfl, ?_⟩
 unfold prdV
 rw [List.getElem?_append_right (by simp), List.getElem?_append_right (by rw [length_rngV' _ hn]; simp), length_rngV' _ hn]
 rfl
set_option maxHeartbeats 4000000 in
theorem rwords17_any (p : Prd) (A : Option Addr) (c : Nat) (w : World) (h : PrdAt w p A c) :
  Calls Tryz.prog 64 #[.agg (prdV p A c).toArray] w fun e w' => e = .returned (.tuple #[.string (bstr (wordsP p).1), .string (bstr (wordsP p).2)]) ∧ Below w.heap.size w w' := by
 obtain ⟨ok, hnm, hlo, hhi, hpl, hsm⟩ := h
 have hsz := Lib.hid (show (Tryz.prog.info? 28).map (·.size) = some (rngV p.net).length by rw [length_rngV' _ ok.net.a]; exact size_rng)
 have r1 : Row (w.alloc (.cells (prdV p A c).toArray 31)) w.heap.size 31 (prdV p A c) := Row.new w _ _
 have hb1 : Below w.heap.size w (w.alloc (.cells (prdV p A c).toArray 31)) := (Below.refl _ w).alloc (Nat.le_refl _) _
 obtain ⟨x0, x1, x2, x3, x22⟩ := prd_at p A c ok.net.a
 have KK := Lib.hid (fun w' (h : Below (w.alloc (.cells (prdV p A c).toArray 31)).heap.size (w.alloc (.cells (prdV p A c).toArray 31)) w') => prd_cells (p := p) (A := A) (c := c) ok.net.a (r1.later h r1.lt))
 have K4 := Lib.hid ((prd_cells (p := p) (A := A) (c := c) ok.net.a r1).2.2.2.2.1)
 obtain ⟨X, hX⟩ : ∃ X, X = prdV p A c := ⟨_, rfl⟩
 rw [← hX] at x0 x1 x2 x3 x22 r1 hb1 KK K4 ⊢
 have hs1 := hnm.later (Nat.le_refl _) hb1
 have hd := Lib.hid (fun w' => rdig16_any p.time p.time w' (Nat.le_refl _) ok.time)
 have hj := Lib.hid (rjoin16_any p.names (by omega) A c _ hs1)
 have hr := Lib.hid (fun w' => rright_any p.path (by omega) w')
 have ht := Lib.hid (fun w' => rtext13_any p.net ok.net w')
 have hf := Lib.hid (fun w' => ftext_any p.cost ok.cost w')
 clear hX r1 hnm hs1 hsm hpl
 by_cases e1 : p.kind = 1
 ·have HX := Lib.hid (show wordsP p = ([98, 101, 102, 111, 114, 101], numL 10 p.time) by unfold wordsP; rw [if_pos e1])
  rw [e1] at x0
  clear KK
  go_enter Tryz.func64, Tryz.ntmps64
  go_wp2_with (first
   | (go_at_call 90; refine (hd.out _).mono ?_; rintro e w2 ⟨rfl, hq⟩; have hb2 := hb1.trans (hq.mono hb1.size)))
  go_ret2
  exact ⟨by rw [HX.out]; rfl, hb2⟩
 have n1 : (p.kind == 1) = false := by rw [beq_eq_false_iff_ne]; exact e1
 by_cases e2 : p.kind = 2
 ·have HX := Lib.hid (show wordsP p = ([115, 105, 110, 99, 101], numL 10 p.time) by unfold wordsP; rw [if_neg e1, if_pos e2])
  rw [e2] at x0
  clear KK e1 n1
  go_enter Tryz.func64, Tryz.ntmps64
  go_wp2_with (first
   | (go_at_call 90; refine (hd.out _).mono ?_; rintro e w2 ⟨rfl, hq⟩; have hb2 := hb1.trans (hq.mono hb1.size)))
  go_ret2
  exact ⟨by rw [HX.out]; rfl, hb2⟩
 have n2 : (p.kind == 2) = false := by rw [beq_eq_false_iff_ne]; exact e2
 by_cases e3 : p.kind = 3
 ·have HX := Lib.hid (show wordsP p = ([111, 112], joinL16 p.names) by unfold wordsP; rw [if_neg e1, if_neg e2, if_pos e3])
  rw [e3] at x0
  clear KK e1 n1 e2 n2
  go_enter Tryz.func64, Tryz.ntmps64
  go_wp2_with (first
   | (go_at_call 104; refine hj.out.mono ?_; rintro e w2 ⟨rfl, rfl⟩))
  go_ret2
  exact ⟨by rw [HX.out]; rfl, hb1⟩
 have n3 : (p.kind == 3) = false := by rw [beq_eq_false_iff_ne]; exact e3
 by_cases e4 : p.kind = 4
 ·rw [e4] at x0
  cases hrt : rightL p.path with
  | true =>
   have HX := Lib.hid (show wordsP p = ([112, 97, 116, 104], p.path) by unfold wordsP; rw [if_neg e1, if_neg e2, if_neg e3, if_pos ⟨e4, hrt⟩])
   rw [hrt] at hr
   clear e1 n1 e2 n2 e3 n3 hrt
   go_enter Tryz.func64, Tryz.ntmps64
   go_wp2_with (first
    | (go_at_call 68; refine (hr.out _).mono ?_; rintro e w2 ⟨rfl, hq⟩; have hb2 := hb1.trans (hq.mono hb1.size); have k3 := (KK.out _ hq).2.2.2.1))
   refine wp_region_noPanic ?_
   refine wp_region_held_drew (S := fun w' => w' = w2.drew) (by kernel_rfl) rfl (fun hHeld => ?_)
   refine rtake 0 _ (some 30) _ rfl rfl (by kernel_rfl) (by kernel_rfl) (by kernel_rfl) (fun _ _ _ h => h) (by rfl) hHeld (by intro w hS; subst hS; go_simp; try with_reducible rfl) ?_
   try (first | (rw [put_some]; dsimp only [List.set]) | rw [put_none])
   refine rtake 1 _ (some 31) _ rfl rfl (by kernel_rfl) (by kernel_rfl) (by kernel_rfl) (fun _ _ _ h => h) (by rfl) hHeld (by intro w hS; subst hS; go_simp; try with_reducible rfl) ?_
   try (first | (rw [put_some]; dsimp only [List.set]) | rw [put_none])
   refine rtake 2 _ (some 2) _ rfl rfl (by kernel_rfl) (by kernel_rfl) (by kernel_rfl) (fun _ _ _ h => h) (by rfl) hHeld (by intro w hS; subst hS; go_simp; try with_reducible rfl) ?_
   try (first | (rw [put_some]; dsimp only [List.set]) | rw [put_none])
   refine rtake 3 _ (some 3) _ rfl rfl (by kernel_rfl) (by kernel_rfl) (by kernel_rfl) (fun _ _ _ h => h) (by rfl) hHeld (by intro w hS; subst hS; go_simp; try with_reducible rfl) ?_
   try (first | (rw [put_some]; dsimp only [List.set]) | rw [put_none])
   refine wpAnyH_done (by kernel_rfl) ?_ _
   refine NoPanic.normal ?_
   go_wp2
   go_ret2
   exact ⟨by rw [HX.out]; rfl, hb2.drew⟩
  | false =>
   have HX := Lib.hid (show wordsP p = ([], []) by unfold wordsP; rw [if_neg e1, if_neg e2, if_neg e3, if_neg (fun h => by rw [hrt] at h; cases h.2), if_neg (by rw [e4]; decide), if_neg (by rw [e4]; decide)])
   rw [hrt] at hr
   clear e1 n1 e2 n2 e3 n3 hrt
   go_enter Tryz.func64, Tryz.ntmps64
   go_wp2_with (first
    | (go_at_call 68; refine (hr.out _).mono ?_; rintro e w2 ⟨rfl, hq⟩; have hb2 := hb1.trans (hq.mono hb1.size); have k0 := (KK.out _ hq).1; rw [e4] at k0))
   go_ret2
   exact ⟨by rw [HX.out]; rfl, hb2⟩
 have n4 : (p.kind == 4) = false := by rw [beq_eq_false_iff_ne]; exact e4
 by_cases e5 : p.kind = 5
 ·have HX := Lib.hid (show wordsP p = ([110, 101, 116], textR p.net) by unfold wordsP; rw [if_neg e1, if_neg e2, if_neg e3, if_neg (fun h => e4 h.1), if_pos e5])
  rw [e5] at x0
  clear KK e1 n1 e2 n2 e3 n3 e4 n4
  go_enter Tryz.func64, Tryz.ntmps64
  generalize rngV p.net = R at *
  go_wp2_with (first
   | (with_reducible refine wpList_load_mid rfl 28 (.tmp 35) rfl w.heap.size 4 rfl R _ K4.out Tryz.underlying28 rfl hsz.out ?_)
   | (go_at_call 94; refine (ht.out _).mono ?_; rintro e w2 ⟨rfl, hq⟩; have hb2 := hb1.trans (hq.mono hb1.size)))
  go_ret2
  exact ⟨by rw [HX.out]; rfl, hb2⟩
 have n5 : (p.kind == 5) = false := by rw [beq_eq_false_iff_ne]; exact e5
 by_cases e6 : p.kind = 6
 ·have HX := Lib.hid (show wordsP p = ([99, 111, 115, 116], textC p.cost) by unfold wordsP; rw [if_neg e1, if_neg e2, if_neg e3, if_neg (fun h => e4 h.1), if_neg e5, if_pos e6])
  rw [e6] at x0
  clear KK e1 n1 e2 n2 e3 n3 e4 n4 e5 n5
  go_enter Tryz.func64, Tryz.ntmps64
  go_wp2_with (first
   | (go_at_call 97; refine (hf.out _).mono ?_; rintro e w2 ⟨rfl, hq⟩; have hb2 := hb1.trans (hq.mono hb1.size)))
  go_ret2
  exact ⟨by rw [HX.out]; rfl, hb2⟩
 have n6 : (p.kind == 6) = false := by rw [beq_eq_false_iff_ne]; exact e6
 have HX := Lib.hid (show wordsP p = ([], []) by unfold wordsP; rw [if_neg e1, if_neg e2, if_neg e3, if_neg (fun h => e4 h.1), if_neg e5, if_neg e6])
 clear KK e1 e2 e3 e4 e5 e6
 generalize p.kind = K at *
 go_enter Tryz.func64, Tryz.ntmps64
 go_wp2
 go_ret2
 exact ⟨by rw [HX.out]; rfl, hb1⟩
theorem cells_byte : Tryz.prog.cellsOf 5 = 1 := by kernel_rfl
theorem part_byte (xs : List UInt8) (i : Nat) (h : i < xs.length) (w : World) : (Go.part 5 (byts xs).toArray (i * 1)).run Tryz.prog w = .ok (.int .u8 ((xs.getD i 0).toNat : Int)) w := by
 have hc : (byts xs).toArray[i * 1]? = some (.int .u8 ((xs.getD i 0).toNat : Int)) := by
  rw [Nat.mul_one, List.getElem?_toArray, get_byts _ _ h]
 simp only [Go.part, isAgg, Sem.run_bind, run_underlying Tryz.underlying5, Result.andThen_ok, Sem.run_pure, hc]
 rfl
theorem run_items (xs ys : List UInt8) (is : List Nat) (hx : ∀ i ∈ is, i < xs.length) (hy : ∀ i ∈ is, i < ys.length) (w : World) :
  (Op.eqItems 9999 5 1 (byts xs).toArray (byts ys).toArray is).run Tryz.prog w = .ok (is.all fun i => decide (xs.getD i 0 = ys.getD i 0)) w := by
 induction is with
 | nil => simp [Op.eqItems]
 | cons i is ih =>
  have h := ih (fun j hj => hx j (by simp [hj])) (fun j hj => hy j (by simp [hj]))
  simp only [Op.eqItems, Sem.run_bind, part_byte xs i (hx i (by simp)) w, part_byte ys i (hy i (by simp)) w, Result.andThen_ok, run_equalIn_int w 9998 5 .u8 .u8 _ _ Tryz.underlying5, List.all_cons]
  generalize xs.getD i 0 = a
  generalize ys.getD i 0 = b
  by_cases e : a = b
  ·subst e
   simp only [BEq.rfl, Bool.not_true, Bool.false_eq_true, if_false, decide_true, Bool.true_and, h]
  ·have e' : ((a.toNat : Int) == (b.toNat : Int)) = false := by
    rw [beq_eq_false_iff_ne]
    intro h
    exact e (UInt8.toNat_inj.1 (by omega))
   simp only [e', e, Bool.not_false, if_true, decide_false, Bool.false_and, Sem.run_pure]
theorem all_getD (xs ys : List UInt8) (h : xs.length = ys.length) : ((List.range xs.length).all fun i => decide (xs.getD i 0 = ys.getD i 0)) = decide (xs = ys) := by
 rw [Bool.eq_iff_iff, List.all_eq_true, decide_eq_true_iff]
 constructor
 ·intro hall
  apply List.ext_getElem h
  intro i h1 h2
  have := hall i (by simpa using h1)
  simpa [h1, h2] using this
 ·rintro rfl i _
  simp
theorem run_eq_bytes (t : TypeId) (n : Nat) (i0 : TypeInfo) (hu : Tryz.prog.underlying t = some (.array n 5)) (hi : Tryz.prog.info? 5 = some i0) (xs ys : List UInt8) (hx : xs.length = n) (hy : ys.length = n) (w : World) :
  (Op.equalIn 10000 t (.agg (byts xs).toArray) (.agg (byts ys).toArray)).run Tryz.prog w = .ok (decide (xs = ys)) w := by
 rw [run_equalIn_array w 9999 _ _ hu hi, cells_byte, run_items xs ys (List.range n) (fun i h => by rw [hx]; simpa using h) (fun i h => by rw [hy]; simpa using h) w, ← hx, all_getD xs ys (by rw [hx, hy])]
theorem part_v6 (a : Adr) (w : World) : (Go.part 4 (adrV a).toArray 0).run Tryz.prog w = .ok (.bool a.v6) w := by
 simp only [Go.part, isAgg, Sem.run_bind, run_underlying Tryz.underlying4, Result.andThen_ok, Sem.run_pure]
 rfl
theorem isAgg16 (w : World) : (isAgg 24).run Tryz.prog w = .ok true w := by kernel_rfl
theorem sizeOf16 (w : World) : (sizeOf 24).run Tryz.prog w = .ok 16 w := by kernel_rfl
theorem part_b (a : Adr) (h : a.Ok) (w : World) : (Go.part 24 (adrV a).toArray 1).run Tryz.prog w = .ok (.agg (byts a.b).toArray) w := by
 have e : (adrV a).toArray.extract 1 17 = (byts a.b).toArray := by
  rw [List.extract_toArray]
  unfold adrV
  congr 1
  show (byts a.b).take 16 = byts a.b
  exact List.take_of_length_le (by rw [length_byts, h]; exact Nat.le_refl _)
 simp only [Go.part, Sem.run_bind, isAgg16, Result.andThen_ok, if_true, sizeOf16, Sem.run_pure]
 rw [e]
theorem run_items_d (d : Nat) (xs ys : List UInt8) (is : List Nat) (hx : ∀ i ∈ is, i < xs.length) (hy : ∀ i ∈ is, i < ys.length) (w : World) :
  (Op.eqItems (d + 1) 5 1 (byts xs).toArray (byts ys).toArray is).run Tryz.prog w = .ok (is.all fun i => decide (xs.getD i 0 = ys.getD i 0)) w := by
 induction is with
 | nil => simp [Op.eqItems]
 | cons i is ih =>
  have h := ih (fun j hj => hx j (by simp [hj])) (fun j hj => hy j (by simp [hj]))
  simp only [Op.eqItems, Sem.run_bind, part_byte xs i (hx i (by simp)) w, part_byte ys i (hy i (by simp)) w, Result.andThen_ok, run_equalIn_int w d 5 .u8 .u8 _ _ Tryz.underlying5, List.all_cons]
  generalize xs.getD i 0 = a
  generalize ys.getD i 0 = b
  by_cases e : a = b
  ·subst e
   simp only [BEq.rfl, Bool.not_true, Bool.false_eq_true, if_false, decide_true, Bool.true_and, h]
  ·have e' : ((a.toNat : Int) == (b.toNat : Int)) = false := by
    rw [beq_eq_false_iff_ne]
    intro h
    exact e (UInt8.toNat_inj.1 (by omega))
   simp only [e', e, Bool.not_false, if_true, decide_false, Bool.false_and, Sem.run_pure]
theorem eq_adr9 (a b : Adr) (ha : a.Ok) (hb : b.Ok) (w : World) : (Op.equalIn 9999 26 (.agg (adrV a).toArray) (.agg (adrV b).toArray)).run Tryz.prog w = .ok (a.v6 == b.v6 && decide (a.b = b.b)) w := by
 rw [run_equalIn_struct w 9998 26 _ _ (by kernel_rfl) (by kernel_rfl)]
 obtain ⟨i0, hi, _⟩ := info_parts infoByte
 have h16 : (Op.equalIn 9998 24 (.agg (byts a.b).toArray) (.agg (byts b.b).toArray)).run Tryz.prog w = .ok (decide (a.b = b.b)) w := by
  rw [run_equalIn_array w 9997 _ _ Tryz.underlying24 hi, cells_byte, run_items_d 9996 a.b b.b (List.range 16) (fun i h => by rw [ha]; simpa using h) (fun i h => by rw [hb]; simpa using h) w]
  have := all_getD a.b b.b (by rw [ha, hb])
  rw [ha] at this
  rw [this]
 have hb4 := run_equalIn_bool' (P := Tryz.prog) w 9997 4 a.v6 b.v6 Tryz.underlying4
 cases hv : (a.v6 == b.v6) <;> cases hd : decide (a.b = b.b) <;> rw [hv] at hb4 <;> rw [hd] at h16 <;>
  simp [Program.fieldsOf, Tryz.underlying26, Op.eqFields, Sem.run_bind, part_v6, part_b a ha, part_b b hb, hb4, h16]
theorem part_ra (r : Rng) (h : r.a.Ok) (w : World) : (Go.part 26 (rngV r).toArray 0).run Tryz.prog w = .ok (.agg (adrV r.a).toArray) w := by
 have e : (rngV r).toArray.extract 0 17 = (adrV r.a).toArray := by
  rw [List.extract_toArray]
  congr 1
  unfold rngV
  show (adrV r.a ++ [Value.int .i64 r.n]).take 17 = adrV r.a
  exact List.take_left' (length_adrV h)
 have h1 : (isAgg 26).run Tryz.prog w = .ok true w := by kernel_rfl
 have h2 : (sizeOf 26).run Tryz.prog w = .ok 17 w := by kernel_rfl
 simp only [Go.part, Sem.run_bind, h1, Result.andThen_ok, if_true, h2, Sem.run_pure]
 rw [e]
theorem part_rn (r : Rng) (h : r.a.Ok) (w : World) : (Go.part 3 (rngV r).toArray 17).run Tryz.prog w = .ok (.int .i64 r.n) w := by
 have e : (rngV r).toArray[17]? = some (.int .i64 r.n) := by
  rw [List.getElem?_toArray]
  unfold rngV
  rw [List.getElem?_append_right (by rw [length_adrV h]; exact Nat.le_refl _), length_adrV h]; rfl
 simp only [Go.part, isAgg, Sem.run_bind, run_underlying Tryz.underlying3, Result.andThen_ok, Sem.run_pure]
 rw [if_neg (by decide), e]; rfl
theorem eq_rng (a b : Rng) (ha : a.a.Ok) (hb : b.a.Ok) (w : World) : (Op.equalIn 10000 28 (.agg (rngV a).toArray) (.agg (rngV b).toArray)).run Tryz.prog w = .ok ((a.a.v6 == b.a.v6 && decide (a.a.b = b.a.b)) && a.n == b.n) w := by
 rw [run_equalIn_struct w 9999 28 _ _ (by kernel_rfl) (by kernel_rfl)]
 have h1 := eq_adr9 a.a b.a ha hb w
 have h2 := run_equalIn_int (P := Tryz.prog) w 9998 3 .i64 .i64 a.n b.n Tryz.underlying3
 cases hv : (a.a.v6 == b.a.v6 && decide (a.a.b = b.a.b)) <;> cases hd : (a.n == b.n) <;> rw [hv] at h1 <;> rw [hd] at h2 <;>
  simp [Program.fieldsOf, Tryz.underlying28, Op.eqFields, Sem.run_bind, part_ra a ha, part_ra b hb, part_rn a ha, part_rn b hb, h1, h2]
theorem wpList_open {P : Program} {ops : Array Oper} {Q : Exit → Act → World → Prop} {a : Act} {w : World} {rest : List Oper} {d : Option Nat} {op : Op} {t : TypeId} {pos : String} {af : Array Edge} {g : Option (Nat × Bool)}
  (hw : Region.wanted ⟨d, op, t, pos, af, g⟩ (yielded ops a.tmps) = true) (h : wpList P ops Q (⟨d, op, t, pos, af, none⟩ :: rest) a w) : wpList P ops Q (⟨d, op, t, pos, af, g⟩ :: rest) a w := by
 unfold wpList at h ⊢
 rw [if_pos hw]
 rw [if_pos (show Region.wanted ⟨d, op, t, pos, af, none⟩ (yielded ops a.tmps) = true from rfl)] at h
 exact h
end Go.Proofs.YtjieebmcbpdeiaaGreatDoor
