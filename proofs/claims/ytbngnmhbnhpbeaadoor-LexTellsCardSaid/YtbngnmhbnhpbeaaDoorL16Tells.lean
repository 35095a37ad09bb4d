/- LAYER 16, LexTells: the walk of the law. -/
import Derived.Test.YtbngnmhbnhpbeaaDoorXv
import Derived.Test.YtbngnmhbnhpbeaaDoorXf
namespace Go.Proofs.YtbngnmhbnhpbeaaDoor
set_option maxRecDepth 100000
open Go Go.RowKit

theorem words_len (s : List UInt8) (hs : s.length ≤ 2000) : ((wordsL s).getD []).length ≤ 1000000 := by
  have := splitL_len 32 s
  unfold wordsL
  split
  · decide
  · split
    · show (splitL 32 s).length ≤ _
      omega
    · decide
theorem names_len (s : List UInt8) (hs : s.length ≤ 2000) : ((namesC s).getD []).length ≤ 1000000 := by
  have := splitL_len 44 s
  unfold namesC
  split
  · show (splitL 44 s).length ≤ _
    omega
  · decide
set_option maxHeartbeats 8000000 in
theorem xtells_walk (s : List UInt8) (w : World) (hE : EnvN w) : Calls Tryd.prog 3 #[.string (bstr s)] w fun e w' => e = .returned (.bool true) ∧ Below w.heap.size w w' := by
  have hal := Lib.hid (xalive_any w hE.most)
  have hb : Below w.heap.size w w := Below.refl _ _
  have hz := size_bstr s
  by_cases hl : 2000 < s.length
  · have a1 : (2000 : Int) < (s.length : Int) := by omega
    clear hl
    go_enter Tryd.func3, Tryd.ntmps3
    go_wp2_with (first
      | (go_at_call 6; refine hal.out.mono ?_; rintro e w' ⟨rfl, hq⟩; have hb := hb.trans (hq.mono hb.size); have hEE := hE.next hb))
    go_ret
    exact ⟨rfl, hb⟩
  have a1 : (s.length : Int) ≤ 2000 := by omega
  have k1 := Lib.hid (fun w' h => xwords_any s (by omega) w' h)
  have k2 := Lib.hid (fun w' => rwords16_any s (by omega) w')
  have k3 := Lib.hid (fun w' h => xnumber_any s (by omega) w' h)
  have k4 := Lib.hid (fun w' => rnumber16_any s (by omega) w')
  have k5 := Lib.hid (fun w' h => xnames_any s (by omega) w' h)
  have k6 := Lib.hid (fun w' => rnames16_any s (by omega) w')
  have k7 := Lib.hid (fun w' => xname_any s (by omega) w')
  have k8 := Lib.hid (fun w' => rname16_any s (by omega) w')
  have hwl := words_len s (by omega)
  have hnl := names_len s (by omega)
  have k9 := Lib.hid (fun A B c d w' h1 h2 => (decide_eq_true (rfl : (wordsL s).getD [] = (wordsL s).getD [])) ▸ same16_any ((wordsL s).getD []) ((wordsL s).getD []) hwl A B c d w' h1 h2)
  have k10 := Lib.hid (fun A B c d w' h1 h2 => (decide_eq_true (rfl : (namesC s).getD [] = (namesC s).getD [])) ▸ same16_any ((namesC s).getD []) ((namesC s).getD []) hnl A B c d w' h1 h2)
  have tok : True := trivial
  clear hl hwl hnl
  unfold GaveRow numAns at *
  generalize (wordsL s).getD [] = xs at *
  generalize (wordsL s).isSome = b1 at *
  generalize (namesC s).getD [] = ns at *
  generalize (namesC s).isSome = b2 at *
  generalize (numberL s).getD 0 = n at *
  generalize (numberL s).isSome = b3 at *
  generalize name16 s = b4 at *
  go_enter Tryd.func3, Tryd.ntmps3
  go_wp2_with (first
    | (go_at_call 6; refine hal.out.mono ?_; rintro e w' ⟨rfl, hq⟩; have hb := hb.trans (hq.mono hb.size); have hEE := hE.next hb)
    | (go_at_call 7; refine (k1.out _ hEE.most).mono ?_; rintro e w' ⟨Aa, ca, rfl, ha, hq⟩; have hb := hb.trans (hq.mono hb.size); have hEE := hE.next hb)
    | (go_at_call 8; refine (k2.out _).mono ?_; rintro e w' ⟨Ax, cx, rfl, hx, hq⟩; have ha := ha.later (Nat.le_refl _) hq; have hb := hb.trans (hq.mono hb.size); have hEE := hE.next hb)
    | (go_at_call 9; refine (k3.out _ hEE).mono ?_; rintro e w' ⟨rfl, hq⟩; have ha := ha.later (Nat.le_refl _) hq; have hx := hx.later (Nat.le_refl _) hq; have hb := hb.trans (hq.mono hb.size); have hEE := hE.next hb)
    | (go_at_call 10; refine (k4.out _).mono ?_; rintro e w' ⟨rfl, hq⟩; have ha := ha.later (Nat.le_refl _) hq; have hx := hx.later (Nat.le_refl _) hq; have hb := hb.trans (hq.mono hb.size); have hEE := hE.next hb)
    | (go_at_call 11; refine (k5.out _ hEE.most).mono ?_; rintro e w' ⟨Ae, ce, rfl, he, hq⟩; have ha := ha.later (Nat.le_refl _) hq; have hx := hx.later (Nat.le_refl _) hq; have hb := hb.trans (hq.mono hb.size); have hEE := hE.next hb)
    | (go_at_call 12; refine (k6.out _).mono ?_; rintro e w' ⟨Au, cu, rfl, hu, hq⟩; have ha := ha.later (Nat.le_refl _) hq; have hx := hx.later (Nat.le_refl _) hq; have he := he.later (Nat.le_refl _) hq; have hb := hb.trans (hq.mono hb.size); have hEE := hE.next hb)
    | (go_at_call 13; have _t := tok; refine (k9.out _ _ _ _ _ ha hx).mono ?_; rintro e w' ⟨rfl, hq⟩; have he := he.later (Nat.le_refl _) hq; have hu := hu.later (Nat.le_refl _) hq; have hb := hb.trans (hq.mono hb.size); have hEE := hE.next hb; clear tok)
    | (go_at_call 13; refine (k10.out _ _ _ _ _ he hu).mono ?_; rintro e w' ⟨rfl, hq⟩; have hb := hb.trans (hq.mono hb.size); have hEE := hE.next hb)
    | (go_at_call 14; refine (k7.out _).mono ?_; rintro e w' ⟨rfl, hq⟩; have hb := hb.trans (hq.mono hb.size); have hEE := hE.next hb)
    | (go_at_call 15; refine (k8.out _).mono ?_; rintro e w' ⟨rfl, rfl⟩))
  go_ret
  exact ⟨rfl, hb⟩
end Go.Proofs.YtbngnmhbnhpbeaaDoor
