/- LAYER 14, PathTells: the walk of the law. -/
import Derived.Test.YtipnmjhijjfehaaDoorNw
import Derived.Test.YtipnmjhijjfehaaDoorNn
namespace Go.Proofs.YtipnmjhijjfehaaDoor
set_option maxRecDepth 100000
open Go Go.RowKit

set_option maxHeartbeats 8000000 in
theorem ptells_walk (p q : List UInt8) (w : World) (hE : EnvP w) : Calls Tryd.prog 3 #[.string (bstr p), .string (bstr q)] w fun e w' => e = .returned (.bool true) ∧ Below w.heap.size w w' := by
  have hal := Lib.hid (palive_any w hE)
  have hzp := size_bstr p
  have hzq := size_bstr q
  by_cases h1 : 1000 < p.length
  · have a1 : (1000 : Int) < (p.length : Int) := by omega
    clear h1
    go_enter Tryd.func3, Tryd.ntmps3
    go_wp2_with (go_at_call 5; refine hal.out.mono ?_; rintro e w1 ⟨rfl, hb1⟩)
    go_ret
    exact ⟨rfl, hb1⟩
  have a1 : decide ((1000 : Int) < (p.length : Int)) = false := decide_eq_false (by omega)
  by_cases h2 : 1000 < q.length
  · have a2 : (1000 : Int) < (q.length : Int) := by omega
    clear h1 h2
    go_enter Tryd.func3, Tryd.ntmps3
    go_wp2_with (go_at_call 5; refine hal.out.mono ?_; rintro e w1 ⟨rfl, hb1⟩)
    go_ret
    exact ⟨rfl, hb1⟩
  have a2 : decide ((1000 : Int) < (q.length : Int)) = false := decide_eq_false (by omega)
  have hn1 := Lib.hid (fun w' => pnormal_any p (by omega) w')
  have hn2 := Lib.hid (fun w' => rnormal_any p (by omega) w')
  have hr1 := Lib.hid (fun w' => pright_any p (by omega) w')
  have hr2 := Lib.hid (fun w' => rright_any p (by omega) w')
  have hm1 := Lib.hid (fun w' h => pnames_any p (by omega) w' h)
  have hm2 := Lib.hid (fun w' => rnames_any p (by omega) w')
  have hu1 := Lib.hid (fun w' h => punder_any p q (by omega) (by omega) w' h)
  have hu2 := Lib.hid (fun w' => runder_any p q (by omega) (by omega) w')
  have hu3 := Lib.hid (fun w' h => punder_any q p (by omega) (by omega) w' h)
  have hu4 := Lib.hid (fun w' => runder_any q p (by omega) (by omega) w')
  have hnl := names_sum p
  have hsm := Lib.hid (fun A B c d w' hs ht => same_any (namesL p) (namesL p) (by omega) A B c d w' hs ht)
  clear h1 h2 hnl
  generalize (normL p).getD [] = X at *
  generalize (normL p).isSome = O at *
  generalize rightL p = R at *
  generalize namesL p = N at *
  generalize underL p q = U1 at *
  generalize underL q p = U2 at *
  have hsm2 := Lib.hid (fun A B c d w' hs ht => decide_eq_true (rfl : N = N) ▸ hsm.out A B c d w' hs ht)
  have tok1 : True := trivial
  have tok2 : True := trivial
  clear hsm
  go_enter Tryd.func3, Tryd.ntmps3
  go_wp2_with (first
    | (go_at_call 5; refine hal.out.mono ?_; rintro e w1 ⟨rfl, hb1⟩)
    | (go_at_call 6; refine (hn1.out _).mono ?_; rintro e w2 ⟨rfl, hb2⟩; have hb2 := hb1.trans (hb2.mono hb1.size))
    | (go_at_call 7; refine (hn2.out _).mono ?_; rintro e w3 ⟨rfl, hb3⟩; have hb3 := hb2.trans (hb3.mono hb2.size))
    | (go_at_call 8; refine (hr1.out _).mono ?_; rintro e w4 ⟨rfl, hb4⟩; have hb4 := hb3.trans (hb4.mono hb3.size))
    | (go_at_call 9; refine (hr2.out _).mono ?_; rintro e w5 ⟨rfl, hb5⟩; have hb5 := hb4.trans (hb5.mono hb4.size); have hE5 := hE.next hb5)
    | (go_at_call 11; refine (hm1.out _ hE5).mono ?_; rintro e w6 ⟨A, c, rfl, hs6, hb6⟩; have hb6 := hb5.trans (hb6.mono hb5.size))
    | (go_at_call 12; refine (hm2.out _).mono ?_; rintro e w7 ⟨v7, rfl, ho7, hb7⟩; obtain ⟨B, d, rfl, -, ht7⟩ := Sl.of_own ho7; have hs7 := hs6.later (Nat.le_refl _) hb7; have hb7 := hb6.trans (hb7.mono hb6.size); clear ho7 hs6)
    | (go_at_call 10; refine (hsm2.out A B c d _ hs7 ht7).mono ?_; rintro e w8 ⟨rfl, hb8⟩; have hb8 := hb7.trans (hb8.mono hb7.size); have hE8 := hE.next hb8)
    | (go_at_call 13; have _t := tok1; refine (hu1.out _ hE8).mono ?_; rintro e w9 ⟨rfl, hb9⟩; have hb9 := hb8.trans (hb9.mono hb8.size); clear tok1)
    | (go_at_call 14; have _t := tok2; refine (hu2.out _).mono ?_; rintro e w10 ⟨rfl, hb10⟩; have hb10 := hb9.trans (hb10.mono hb9.size); have hE10 := hE.next hb10; clear tok2)
    | (go_at_call 13; refine (hu3.out _ hE10).mono ?_; rintro e w11 ⟨rfl, hb11⟩; have hb11 := hb10.trans (hb11.mono hb10.size))
    | (go_at_call 14; refine (hu4.out _).mono ?_; rintro e w12 ⟨rfl, hb12⟩; have hb12 := hb11.trans (hb12.mono hb11.size)))
  go_ret
  exact ⟨rfl, hb12⟩
end Go.Proofs.YtipnmjhijjfehaaDoor
