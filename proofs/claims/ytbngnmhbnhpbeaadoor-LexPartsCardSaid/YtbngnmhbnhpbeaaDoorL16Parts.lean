/- LAYER 16, LexParts: the walk of the law. -/
import Derived.Test.YtbngnmhbnhpbeaaDoorXv
import Derived.Test.YtbngnmhbnhpbeaaDoorXf
namespace Go.Proofs.YtbngnmhbnhpbeaaDoor
set_option maxRecDepth 100000
open Go Go.RowKit

theorem own_nil (w : World) : (w.alloc (.cells #[] 9)).ownsRow w.heap.size 9 1 (.slice (some ⟨w.heap.size, 0, none⟩) 0 0) 0 (strsV []) := World.ownsRow_lit w (e := 9) (size := 1) #[] 0 (Nat.le_refl _) (by unfold maxLen; omega) rfl
theorem below_nil (w : World) : Below w.heap.size w (w.alloc (.cells #[] 9)) := (Below.refl _ w).alloc (Nat.le_refl _) _
theorem xwords_at (s : List UInt8) (hs : s.length ≤ 2100) (l : List (List UInt8)) (v : Bool) (h1 : (wordsL s).getD [] = l) (h2 : (wordsL s).isSome = v) (w : World) (hE : EnvX w) :
    Calls Tryd.prog 7 #[.string (bstr s)] w fun e w' => ∃ A c, e = .returned (.tuple #[.slice A l.length c, .bool v]) ∧ Sl w' A c (strsV l) ∧ Below w.heap.size w w' := by
  subst h1 h2
  exact xwords_any s hs w hE
theorem xnumber_at (n : Nat) (h : n < 2 ^ 64) (w : World) (hE : EnvN w) : Calls Tryd.prog 9 #[.string (bstr (numL 10 n))] w fun e w' => e = .returned (.tuple #[.int .u64 (n : Int), .bool true]) ∧ Below w.heap.size w w' := by
  have h1 := xnumber_any (numL 10 n) (by have := numL_len20 n h; omega) w hE
  rw [number_num n h] at h1
  exact h1
theorem cat_blank (a b : List UInt8) : bstr a ++ ({ data := #[32] } : ByteArray) ++ bstr b = bstr (a ++ 32 :: b) := by
  rw [show ({ data := #[32] } : ByteArray) = bstr [32] from rfl, bstr_cat12, bstr_cat12]
  congr 1
  simp
set_option maxHeartbeats 8000000 in
theorem xparts_off (a b : List UInt8) (n : Nat) (hn : n < 2 ^ 64) (ha : a.length ≤ 300) (hbl : b.length ≤ 200) (xs ys zs : List (List UInt8)) (ok is both : Bool) (x1 : (wordsL a).getD [] = xs) (x2 : (wordsL a).isSome = ok) (y1 : (wordsL b).getD [] = ys) (y2 : (wordsL b).isSome = is) (z1 : (wordsL (a ++ 32 :: b)).getD [] = zs) (z2 : (wordsL (a ++ 32 :: b)).isSome = both) (_lx : xs.length ≤ 301) (_ly : ys.length ≤ 301) (q0 : ok = false) (q1 : both = false) (w : World) (hE : EnvN w) : Calls Tryd.prog 5 #[.string (bstr a), .string (bstr b), .int .u64 n] w fun e w' => e = .returned (.bool true) ∧ Below w.heap.size w w' := by
  subst q0 q1
  have hal := Lib.hid (xalive_any w hE.most)
  have hb : Below w.heap.size w w := Below.refl _ _
  have hza := size_bstr a
  have hzb := size_bstr b
  have a1 : decide ((300 : Int) < (a.length : Int)) = false := decide_eq_false (by omega)
  have a2 : decide ((200 : Int) < (b.length : Int)) = false := decide_eq_false (by omega)
  have k1 := Lib.hid (fun w' h => xwords_at a (by omega) xs _ x1 x2 w' h)
  have k2 := Lib.hid (fun w' h => xwords_at b (by omega) ys _ y1 y2 w' h)
  have k3 := Lib.hid (fun w' h => cat_blank a b ▸ xwords_at (a ++ 32 :: b) (by rw [List.length_append, List.length_cons]; omega) _ _ z1 z2 w' h)
  have k5 := Lib.hid (fun w' => rdig16_any n n w' (Nat.le_refl _) hn)
  have k6 := Lib.hid (fun w' h => xnumber_at n hn w' h)
  have hc2 : (bstr a ++ ({ data := #[32] } : ByteArray)).size = a.length + 1 := by rw [show ({ data := #[32] } : ByteArray) = bstr [32] from rfl, bstr_cat12, size_bstr]; simp
  have hc3 : ({ data := #[32] } : ByteArray).size = 1 := rfl
  have tok1 : True := trivial
  have tok2 : True := trivial
  clear x1 x2 y1 y2 z1 z2
  generalize numL 10 n = N at *
  go_enter Tryd.func5, Tryd.ntmps5
  go_wp2_with (first
    | (go_at_call 6; refine hal.out.mono ?_; rintro e w' ⟨rfl, hq⟩; have hb := hb.trans (hq.mono hb.size); have hEE := hE.next hb)
    | (go_at_call 7; have _t := tok1; refine (k1.out _ hEE.most).mono ?_; rintro e w' ⟨Ax, cx, rfl, hx, hq⟩; have hb := hb.trans (hq.mono hb.size); have hEE := hE.next hb; clear tok1)
    | (go_at_call 7; have _t := tok2; refine (k2.out _ hEE.most).mono ?_; rintro e w' ⟨Ay, cy, rfl, hy, hq⟩; have hx := hx.later (Nat.le_refl _) hq; have hb := hb.trans (hq.mono hb.size); have hEE := hE.next hb; clear tok2)
    | (go_at_call 7; refine (k3.out _ hEE.most).mono ?_; rintro e w3 ⟨Az, cz, rfl, hz, hq⟩; have hx := hx.later (Nat.le_refl _) hq; have hy := hy.later (Nat.le_refl _) hq; have hb := hb.trans (hq.mono hb.size); have hEE := hE.next hb)
    | (go_at_call 18; refine (k5.out _).mono ?_; rintro e w' ⟨rfl, hq⟩; have hb := hb.trans (hq.mono hb.size); have hEE := hE.next hb)
    | (go_at_call 9; refine (k6.out _ hEE).mono ?_; rintro e w' ⟨rfl, hq⟩; have hb := hb.trans (hq.mono hb.size); have hEE := hE.next hb))
  go_ret
  exact ⟨rfl, hb⟩
set_option maxHeartbeats 8000000 in
theorem xparts_is (a b : List UInt8) (n : Nat) (hn : n < 2 ^ 64) (ha : a.length ≤ 300) (hbl : b.length ≤ 200) (xs ys zs : List (List UInt8)) (ok is both : Bool) (x1 : (wordsL a).getD [] = xs) (x2 : (wordsL a).isSome = ok) (y1 : (wordsL b).getD [] = ys) (y2 : (wordsL b).isSome = is) (z1 : (wordsL (a ++ 32 :: b)).getD [] = zs) (z2 : (wordsL (a ++ 32 :: b)).isSome = both) (_lx : xs.length ≤ 301) (_ly : ys.length ≤ 301) (q0 : ok = true) (q1 : is = false) (q2 : both = false) (w : World) (hE : EnvN w) : Calls Tryd.prog 5 #[.string (bstr a), .string (bstr b), .int .u64 n] w fun e w' => e = .returned (.bool true) ∧ Below w.heap.size w w' := by
  subst q0 q1 q2
  have hal := Lib.hid (xalive_any w hE.most)
  have hb : Below w.heap.size w w := Below.refl _ _
  have hza := size_bstr a
  have hzb := size_bstr b
  have a1 : decide ((300 : Int) < (a.length : Int)) = false := decide_eq_false (by omega)
  have a2 : decide ((200 : Int) < (b.length : Int)) = false := decide_eq_false (by omega)
  have k1 := Lib.hid (fun w' h => xwords_at a (by omega) xs _ x1 x2 w' h)
  have k2 := Lib.hid (fun w' h => xwords_at b (by omega) ys _ y1 y2 w' h)
  have k3 := Lib.hid (fun w' h => cat_blank a b ▸ xwords_at (a ++ 32 :: b) (by rw [List.length_append, List.length_cons]; omega) _ _ z1 z2 w' h)
  have k5 := Lib.hid (fun w' => rdig16_any n n w' (Nat.le_refl _) hn)
  have k6 := Lib.hid (fun w' h => xnumber_at n hn w' h)
  have hc2 : (bstr a ++ ({ data := #[32] } : ByteArray)).size = a.length + 1 := by rw [show ({ data := #[32] } : ByteArray) = bstr [32] from rfl, bstr_cat12, size_bstr]; simp
  have hc3 : ({ data := #[32] } : ByteArray).size = 1 := rfl
  have tok1 : True := trivial
  have tok2 : True := trivial
  clear x1 x2 y1 y2 z1 z2
  generalize numL 10 n = N at *
  go_enter Tryd.func5, Tryd.ntmps5
  go_wp2_with (first
    | (go_at_call 6; refine hal.out.mono ?_; rintro e w' ⟨rfl, hq⟩; have hb := hb.trans (hq.mono hb.size); have hEE := hE.next hb)
    | (go_at_call 7; have _t := tok1; refine (k1.out _ hEE.most).mono ?_; rintro e w' ⟨Ax, cx, rfl, hx, hq⟩; have hb := hb.trans (hq.mono hb.size); have hEE := hE.next hb; clear tok1)
    | (go_at_call 7; have _t := tok2; refine (k2.out _ hEE.most).mono ?_; rintro e w' ⟨Ay, cy, rfl, hy, hq⟩; have hx := hx.later (Nat.le_refl _) hq; have hb := hb.trans (hq.mono hb.size); have hEE := hE.next hb; clear tok2)
    | (go_at_call 7; refine (k3.out _ hEE.most).mono ?_; rintro e w3 ⟨Az, cz, rfl, hz, hq⟩; have hx := hx.later (Nat.le_refl _) hq; have hy := hy.later (Nat.le_refl _) hq; have hb := hb.trans (hq.mono hb.size); have hEE := hE.next hb)
    | (go_at_call 18; refine (k5.out _).mono ?_; rintro e w' ⟨rfl, hq⟩; have hb := hb.trans (hq.mono hb.size); have hEE := hE.next hb)
    | (go_at_call 9; refine (k6.out _ hEE).mono ?_; rintro e w' ⟨rfl, hq⟩; have hb := hb.trans (hq.mono hb.size); have hEE := hE.next hb))
  go_ret
  exact ⟨rfl, hb⟩
set_option maxHeartbeats 8000000 in
theorem xparts_x0 (a b : List UInt8) (n : Nat) (hn : n < 2 ^ 64) (ha : a.length ≤ 300) (hbl : b.length ≤ 200) (xs ys zs : List (List UInt8)) (ok is both : Bool) (x1 : (wordsL a).getD [] = xs) (x2 : (wordsL a).isSome = ok) (y1 : (wordsL b).getD [] = ys) (y2 : (wordsL b).isSome = is) (z1 : (wordsL (a ++ 32 :: b)).getD [] = zs) (z2 : (wordsL (a ++ 32 :: b)).isSome = both) (_lx : xs.length ≤ 301) (_ly : ys.length ≤ 301) (q0 : ok = true) (q1 : is = true) (q2 : xs.length = 0) (q3 : both = false) (w : World) (hE : EnvN w) : Calls Tryd.prog 5 #[.string (bstr a), .string (bstr b), .int .u64 n] w fun e w' => e = .returned (.bool true) ∧ Below w.heap.size w w' := by
  subst q0 q1 q3
  have hal := Lib.hid (xalive_any w hE.most)
  have hb : Below w.heap.size w w := Below.refl _ _
  have hza := size_bstr a
  have hzb := size_bstr b
  have a1 : decide ((300 : Int) < (a.length : Int)) = false := decide_eq_false (by omega)
  have a2 : decide ((200 : Int) < (b.length : Int)) = false := decide_eq_false (by omega)
  have k1 := Lib.hid (fun w' h => xwords_at a (by omega) xs _ x1 x2 w' h)
  have k2 := Lib.hid (fun w' h => xwords_at b (by omega) ys _ y1 y2 w' h)
  have k3 := Lib.hid (fun w' h => cat_blank a b ▸ xwords_at (a ++ 32 :: b) (by rw [List.length_append, List.length_cons]; omega) _ _ z1 z2 w' h)
  have k5 := Lib.hid (fun w' => rdig16_any n n w' (Nat.le_refl _) hn)
  have k6 := Lib.hid (fun w' h => xnumber_at n hn w' h)
  have hc2 : (bstr a ++ ({ data := #[32] } : ByteArray)).size = a.length + 1 := by rw [show ({ data := #[32] } : ByteArray) = bstr [32] from rfl, bstr_cat12, size_bstr]; simp
  have hc3 : ({ data := #[32] } : ByteArray).size = 1 := rfl
  have tok1 : True := trivial
  have tok2 : True := trivial
  clear x1 x2 y1 y2 z1 z2
  generalize numL 10 n = N at *
  have l1 : decide ((0 : Int) < (xs.length : Int)) = false := decide_eq_false (by omega)
  have l1' : decide (0 < xs.length) = false := decide_eq_false (by omega)
  clear q2
  go_enter Tryd.func5, Tryd.ntmps5
  go_wp2_with (first
    | (go_at_call 6; refine hal.out.mono ?_; rintro e w' ⟨rfl, hq⟩; have hb := hb.trans (hq.mono hb.size); have hEE := hE.next hb)
    | (go_at_call 7; have _t := tok1; refine (k1.out _ hEE.most).mono ?_; rintro e w' ⟨Ax, cx, rfl, hx, hq⟩; have hb := hb.trans (hq.mono hb.size); have hEE := hE.next hb; clear tok1)
    | (go_at_call 7; have _t := tok2; refine (k2.out _ hEE.most).mono ?_; rintro e w' ⟨Ay, cy, rfl, hy, hq⟩; have hx := hx.later (Nat.le_refl _) hq; have hb := hb.trans (hq.mono hb.size); have hEE := hE.next hb; clear tok2)
    | (go_at_call 7; refine (k3.out _ hEE.most).mono ?_; rintro e w3 ⟨Az, cz, rfl, hz, hq⟩; have hx := hx.later (Nat.le_refl _) hq; have hy := hy.later (Nat.le_refl _) hq; have hb := hb.trans (hq.mono hb.size); have hEE := hE.next hb)
    | (go_at_call 18; refine (k5.out _).mono ?_; rintro e w' ⟨rfl, hq⟩; have hb := hb.trans (hq.mono hb.size); have hEE := hE.next hb)
    | (go_at_call 9; refine (k6.out _ hEE).mono ?_; rintro e w' ⟨rfl, hq⟩; have hb := hb.trans (hq.mono hb.size); have hEE := hE.next hb))
  go_ret
  exact ⟨rfl, hb⟩
set_option maxHeartbeats 8000000 in
theorem xparts_y0 (a b : List UInt8) (n : Nat) (hn : n < 2 ^ 64) (ha : a.length ≤ 300) (hbl : b.length ≤ 200) (xs ys zs : List (List UInt8)) (ok is both : Bool) (x1 : (wordsL a).getD [] = xs) (x2 : (wordsL a).isSome = ok) (y1 : (wordsL b).getD [] = ys) (y2 : (wordsL b).isSome = is) (z1 : (wordsL (a ++ 32 :: b)).getD [] = zs) (z2 : (wordsL (a ++ 32 :: b)).isSome = both) (_lx : xs.length ≤ 301) (_ly : ys.length ≤ 301) (q0 : ok = true) (q1 : is = true) (q2 : 0 < xs.length) (q3 : ys.length = 0) (q4 : both = false) (w : World) (hE : EnvN w) : Calls Tryd.prog 5 #[.string (bstr a), .string (bstr b), .int .u64 n] w fun e w' => e = .returned (.bool true) ∧ Below w.heap.size w w' := by
  subst q0 q1 q4
  have hal := Lib.hid (xalive_any w hE.most)
  have hb : Below w.heap.size w w := Below.refl _ _
  have hza := size_bstr a
  have hzb := size_bstr b
  have a1 : decide ((300 : Int) < (a.length : Int)) = false := decide_eq_false (by omega)
  have a2 : decide ((200 : Int) < (b.length : Int)) = false := decide_eq_false (by omega)
  have k1 := Lib.hid (fun w' h => xwords_at a (by omega) xs _ x1 x2 w' h)
  have k2 := Lib.hid (fun w' h => xwords_at b (by omega) ys _ y1 y2 w' h)
  have k3 := Lib.hid (fun w' h => cat_blank a b ▸ xwords_at (a ++ 32 :: b) (by rw [List.length_append, List.length_cons]; omega) _ _ z1 z2 w' h)
  have k5 := Lib.hid (fun w' => rdig16_any n n w' (Nat.le_refl _) hn)
  have k6 := Lib.hid (fun w' h => xnumber_at n hn w' h)
  have hc2 : (bstr a ++ ({ data := #[32] } : ByteArray)).size = a.length + 1 := by rw [show ({ data := #[32] } : ByteArray) = bstr [32] from rfl, bstr_cat12, size_bstr]; simp
  have hc3 : ({ data := #[32] } : ByteArray).size = 1 := rfl
  have tok1 : True := trivial
  have tok2 : True := trivial
  clear x1 x2 y1 y2 z1 z2
  generalize numL 10 n = N at *
  have l1 : (0 : Int) < (xs.length : Int) := by omega
  have l2 : decide ((0 : Int) < (ys.length : Int)) = false := decide_eq_false (by omega)
  have l2' : decide (0 < ys.length) = false := decide_eq_false (by omega)
  clear q3
  go_enter Tryd.func5, Tryd.ntmps5
  go_wp2_with (first
    | (go_at_call 6; refine hal.out.mono ?_; rintro e w' ⟨rfl, hq⟩; have hb := hb.trans (hq.mono hb.size); have hEE := hE.next hb)
    | (go_at_call 7; have _t := tok1; refine (k1.out _ hEE.most).mono ?_; rintro e w' ⟨Ax, cx, rfl, hx, hq⟩; have hb := hb.trans (hq.mono hb.size); have hEE := hE.next hb; clear tok1)
    | (go_at_call 7; have _t := tok2; refine (k2.out _ hEE.most).mono ?_; rintro e w' ⟨Ay, cy, rfl, hy, hq⟩; have hx := hx.later (Nat.le_refl _) hq; have hb := hb.trans (hq.mono hb.size); have hEE := hE.next hb; clear tok2)
    | (go_at_call 7; refine (k3.out _ hEE.most).mono ?_; rintro e w3 ⟨Az, cz, rfl, hz, hq⟩; have hx := hx.later (Nat.le_refl _) hq; have hy := hy.later (Nat.le_refl _) hq; have hb := hb.trans (hq.mono hb.size); have hEE := hE.next hb)
    | (go_at_call 18; refine (k5.out _).mono ?_; rintro e w' ⟨rfl, hq⟩; have hb := hb.trans (hq.mono hb.size); have hEE := hE.next hb)
    | (go_at_call 9; refine (k6.out _ hEE).mono ?_; rintro e w' ⟨rfl, hq⟩; have hb := hb.trans (hq.mono hb.size); have hEE := hE.next hb))
  go_ret
  exact ⟨rfl, hb⟩
set_option maxHeartbeats 8000000 in
theorem xparts_all (a b : List UInt8) (n : Nat) (hn : n < 2 ^ 64) (ha : a.length ≤ 300) (hbl : b.length ≤ 200) (xs ys zs : List (List UInt8)) (ok is both : Bool) (x1 : (wordsL a).getD [] = xs) (x2 : (wordsL a).isSome = ok) (y1 : (wordsL b).getD [] = ys) (y2 : (wordsL b).isSome = is) (z1 : (wordsL (a ++ 32 :: b)).getD [] = zs) (z2 : (wordsL (a ++ 32 :: b)).isSome = both) (_lx : xs.length ≤ 301) (_ly : ys.length ≤ 301) (q0 : ok = true) (q1 : is = true) (q2 : 0 < xs.length) (q3 : 0 < ys.length) (q4 : both = true) (q5 : zs = xs ++ ys) (w : World) (hE : EnvN w) : Calls Tryd.prog 5 #[.string (bstr a), .string (bstr b), .int .u64 n] w fun e w' => e = .returned (.bool true) ∧ Below w.heap.size w w' := by
  subst q0 q1 q4
  have hal := Lib.hid (xalive_any w hE.most)
  have hb : Below w.heap.size w w := Below.refl _ _
  have hza := size_bstr a
  have hzb := size_bstr b
  have a1 : decide ((300 : Int) < (a.length : Int)) = false := decide_eq_false (by omega)
  have a2 : decide ((200 : Int) < (b.length : Int)) = false := decide_eq_false (by omega)
  have k1 := Lib.hid (fun w' h => xwords_at a (by omega) xs _ x1 x2 w' h)
  have k2 := Lib.hid (fun w' h => xwords_at b (by omega) ys _ y1 y2 w' h)
  have k3 := Lib.hid (fun w' h => cat_blank a b ▸ xwords_at (a ++ 32 :: b) (by rw [List.length_append, List.length_cons]; omega) _ _ z1 z2 w' h)
  have k5 := Lib.hid (fun w' => rdig16_any n n w' (Nat.le_refl _) hn)
  have k6 := Lib.hid (fun w' h => xnumber_at n hn w' h)
  have hc2 : (bstr a ++ ({ data := #[32] } : ByteArray)).size = a.length + 1 := by rw [show ({ data := #[32] } : ByteArray) = bstr [32] from rfl, bstr_cat12, size_bstr]; simp
  have hc3 : ({ data := #[32] } : ByteArray).size = 1 := rfl
  have tok1 : True := trivial
  have tok2 : True := trivial
  clear x1 x2 y1 y2 z1 z2
  generalize numL 10 n = N at *
  have l1 : (0 : Int) < (xs.length : Int) := by omega
  have l2 : (0 : Int) < (ys.length : Int) := by omega
  obtain ⟨i0, hi, hz0, hz1, hz2⟩ := info_parts infoStr
  have n1 : 0 + xs.length ≤ maxLen := by unfold maxLen; omega
  have n2 : (0 + xs.length) * 16 ≤ 140737488355328 := by omega
  have m1 : xs.length + ys.length ≤ maxLen := by unfold maxLen; omega
  have m2 : (xs.length + ys.length) * 16 ≤ 140737488355328 := by omega
  have HZ := Lib.hid q5
  have hzl : zs.length ≤ 1000000 := by rw [q5, List.length_append]; omega
  have k4 := Lib.hid (fun A B c d w' h1 h2 => (decide_eq_true (rfl : zs = zs)) ▸ same16_any zs zs hzl A B c d w' h1 h2)
  clear hzl
  clear q5
  go_enter Tryd.func5, Tryd.ntmps5
  go_wp2_with (first
    | (go_at_call 6; refine hal.out.mono ?_; rintro e w' ⟨rfl, hq⟩; have hb := hb.trans (hq.mono hb.size); have hEE := hE.next hb)
    | (go_at_call 7; have _t := tok1; refine (k1.out _ hEE.most).mono ?_; rintro e w' ⟨Ax, cx, rfl, hx, hq⟩; have hb := hb.trans (hq.mono hb.size); have hEE := hE.next hb; clear tok1)
    | (go_at_call 7; have _t := tok2; refine (k2.out _ hEE.most).mono ?_; rintro e w' ⟨Ay, cy, rfl, hy, hq⟩; have hx := hx.later (Nat.le_refl _) hq; have hb := hb.trans (hq.mono hb.size); have hEE := hE.next hb; clear tok2)
    | (go_at_call 7; refine (k3.out _ hEE.most).mono ?_; rintro e w3 ⟨Az, cz, rfl, hz, hq⟩; have hx := hx.later (Nat.le_refl _) hq; have hy := hy.later (Nat.le_refl _) hq; have hb := hb.trans (hq.mono hb.size); have hEE := hE.next hb; have hownq := own_nil w3; have hbq := below_nil w3)
    | (at_builtin; refine wpList_open rfl ?_; refine wpList_append_sl rfl (.tmp 63) (.tmp 64) 23 rfl w3.heap.size 9 i0 _ 16 Tryd.underlying23 hi hz0 hz1 hz2 rfl _ 0 (strsV []) rfl hownq Ax xs.length cx (strsV xs) rfl (length_strsV xs).symm (hx.later (Nat.le_refl _) hbq) (strsV_one _) n1 n2 hbq.size ?_; intro v4 w4 hown4 hg4; have hb4 := hbq.grown hg4 hbq.size (fun j hj => (hownq.lt j hj).1); rw [show strsV [] ++ strsV xs = strsV xs from rfl, Nat.zero_add] at hown4)
    | (at_builtin; refine wpList_open rfl ?_; refine wpList_append_sl rfl (.tmp 65) (.tmp 66) 23 rfl w3.heap.size 9 i0 _ 16 Tryd.underlying23 hi hz0 hz1 hz2 rfl _ xs.length (strsV xs) rfl hown4 Ay ys.length cy (strsV ys) rfl (length_strsV ys).symm (hy.later (Nat.le_refl _) hb4) (strsV_one _) m1 m2 hb4.size ?_; intro v5 w5 hown5 hg5; have hb5 := hb4.grown hg5 hb4.size (fun j hj => (hown4.lt j hj).1); rw [← strsV_append, ← List.length_append, ← HZ.out] at hown5; obtain ⟨A5, c5, rfl, hpl, hs5⟩ := Sl.of_own hown5; clear hpl; have hz5 := hz.later (Nat.le_refl _) hb5; have hb := hb.trans (hb5.mono hb.size); have hEE := hE.next hb)
    | (go_at_call 13; refine (k4.out _ _ _ _ _ hz5 hs5).mono ?_; rintro e w' ⟨rfl, hq⟩; have hb := hb.trans (hq.mono hb.size); have hEE := hE.next hb)
    | (go_at_call 18; refine (k5.out _).mono ?_; rintro e w' ⟨rfl, hq⟩; have hb := hb.trans (hq.mono hb.size); have hEE := hE.next hb)
    | (go_at_call 9; refine (k6.out _ hEE).mono ?_; rintro e w' ⟨rfl, hq⟩; have hb := hb.trans (hq.mono hb.size); have hEE := hE.next hb))
  go_ret
  exact ⟨rfl, hb⟩
theorem words_lens (s : List UInt8) (l : List (List UInt8)) (h : wordsL s = some l) (hs : s.length ≤ 300) : l.length ≤ 301 := by
  have := splitL_len 32 s
  rcases words_some s l h with ⟨-, rfl⟩ | ⟨-, -, -, -, rfl⟩
  · decide
  · omega
set_option maxHeartbeats 8000000 in
theorem xparts_walk (a b : List UInt8) (n : Nat) (hn : n < 2 ^ 64) (w : World) (hE : EnvN w) : Calls Tryd.prog 5 #[.string (bstr a), .string (bstr b), .int .u64 n] w fun e w' => e = .returned (.bool true) ∧ Below w.heap.size w w' := by
  have hal := Lib.hid (xalive_any w hE.most)
  have hb : Below w.heap.size w w := Below.refl _ _
  have hza := size_bstr a
  have hzb := size_bstr b
  by_cases h1 : 300 < a.length
  · have a1 : (300 : Int) < (a.length : Int) := by omega
    clear h1
    go_enter Tryd.func5, Tryd.ntmps5
    go_wp2_with (first
      | (go_at_call 6; refine hal.out.mono ?_; rintro e w' ⟨rfl, hq⟩; have hb := hb.trans (hq.mono hb.size); have hEE := hE.next hb))
    go_ret
    exact ⟨rfl, hb⟩
  have a1 : decide ((300 : Int) < (a.length : Int)) = false := decide_eq_false (by omega)
  by_cases h2 : 200 < b.length
  · have a2 : (200 : Int) < (b.length : Int) := by omega
    clear h2
    go_enter Tryd.func5, Tryd.ntmps5
    go_wp2_with (first
      | (go_at_call 6; refine hal.out.mono ?_; rintro e w' ⟨rfl, hq⟩; have hb := hb.trans (hq.mono hb.size); have hEE := hE.next hb))
    go_ret
    exact ⟨rfl, hb⟩
  have a2 : decide ((200 : Int) < (b.length : Int)) = false := decide_eq_false (by omega)
  have ha : a.length ≤ 300 := by omega
  have hbl : b.length ≤ 200 := by omega
  have happ := words_app a b ha hbl
  cases hx : wordsL a with
  | none =>
    rw [hx] at happ
    have happ : wordsL (a ++ 32 :: b) = none := happ
    refine xparts_off a b n hn ha hbl [] ((wordsL b).getD []) [] false _ false (by rw [hx]; rfl) (by rw [hx]; rfl) rfl rfl (by rw [happ]; rfl) (by rw [happ]; rfl) (by decide) ?_ rfl rfl w hE
    cases hy : wordsL b with
    | none => decide
    | some ys => exact words_lens b ys hy (by omega)
  | some xs =>
    have lx := words_lens a xs hx ha
    cases hy : wordsL b with
    | none =>
      rw [hx, hy] at happ
      have happ : wordsL (a ++ 32 :: b) = none := happ
      exact xparts_is a b n hn ha hbl xs [] [] true false false (by rw [hx]; rfl) (by rw [hx]; rfl) (by rw [hy]; rfl) (by rw [hy]; rfl) (by rw [happ]; rfl) (by rw [happ]; rfl) lx (by decide) rfl rfl rfl w hE
    | some ys =>
      have ly := words_lens b ys hy (by omega)
      rw [hx, hy] at happ
      have happ : wordsL (a ++ 32 :: b) = if 0 < xs.length ∧ 0 < ys.length then some (xs ++ ys) else none := happ
      by_cases h1 : 0 < xs.length
      · by_cases h2 : 0 < ys.length
        · rw [if_pos ⟨h1, h2⟩] at happ
          exact xparts_all a b n hn ha hbl xs ys (xs ++ ys) true true true (by rw [hx]; rfl) (by rw [hx]; rfl) (by rw [hy]; rfl) (by rw [hy]; rfl) (by rw [happ]; rfl) (by rw [happ]; rfl) lx ly rfl rfl h1 h2 rfl rfl w hE
        · rw [if_neg (fun h => h2 h.2)] at happ
          exact xparts_y0 a b n hn ha hbl xs ys [] true true false (by rw [hx]; rfl) (by rw [hx]; rfl) (by rw [hy]; rfl) (by rw [hy]; rfl) (by rw [happ]; rfl) (by rw [happ]; rfl) lx ly rfl rfl h1 (by omega) rfl w hE
      · rw [if_neg (fun h => h1 h.1)] at happ
        exact xparts_x0 a b n hn ha hbl xs ys [] true true false (by rw [hx]; rfl) (by rw [hx]; rfl) (by rw [hy]; rfl) (by rw [hy]; rfl) (by rw [happ]; rfl) (by rw [happ]; rfl) lx ly rfl rfl (by omega) rfl w hE
end Go.Proofs.YtbngnmhbnhpbeaaDoor
