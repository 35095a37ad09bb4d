/- LAYER 16: the document's Digits: a number's digits. -/
import Derived.Test.YtbngnmhbnhpbeaaDoorXl
import Derived.Test.YtbngnmhbnhpbeaaDoorSs
import Derived.Test.YtbngnmhbnhpbeaaDoorB1
import Derived.Test.YtbngnmhbnhpbeaaDoorBg
namespace Go.Proofs.YtbngnmhbnhpbeaaDoor
set_option maxRecDepth 100000
open Go Go.RowKit

theorem hexD_small16 (n : Nat) (h : n < 10) : ((hexD n).toNat : Int) = 48 + n := by
  unfold hexD
  rw [if_pos h, UInt8.toNat_ofNat']
  omega
set_option maxHeartbeats 2000000 in
theorem rdig16_any (k : Nat) : ∀ (n : Nat) (w : World), n ≤ k → n < 2 ^ 64 →
    Calls Tryd.prog 18 #[.int .u64 n] w fun e w' => e = .returned (.string (bstr (numL 10 n))) ∧ Below w.heap.size w w' := by
  induction k using Nat.strongRecOn with
  | _ k ih =>
    intro n w hk hm
    by_cases hlt : n < 10
    · have hN := Lib.hid (numL_small 10 n hlt)
      have hlt' : (n : Int) < 10 := by omega
      have hd := hexD_small16 n hlt
      generalize hexD n = x at *
      have hw1 : IntKind.u64.wrap (48 + (n : Int)) = 48 + (n : Int) := by rw [IntKind.wrap_u64]; omega
      have hw2 : IntKind.u8.wrap (48 + (n : Int)) = (x.toNat : Int) := by rw [IntKind.wrap_u8]; omega
      have hsl := sl_lit w [x] #[.int .u8 (x.toNat : Int)] (0, 0) rfl 1 rfl
      have hcv := conv_bytes hsl 1 rfl
      have hb : Below w.heap.size w (w.alloc (.cells #[.int .u8 (x.toNat : Int)] 5 (0, 0))) := (Below.refl _ w).alloc (Nat.le_refl _) _
      clear hsl ih hd
      go_enter Tryd.func18, Tryd.ntmps18
      go_wp2_with fail
      go_ret
      exact ⟨by rw [hN.out]; rfl, hb⟩
    · have hge : (10 : Int) ≤ (n : Int) := by omega
      have hN := Lib.hid (numL_great 10 n (by omega) (by omega))
      have hq := Lib.hid (show ∀ w', Calls Tryd.prog 18 #[.int .u64 ((n : Int) / 10)] w' fun e w'' => e = .returned (.string (bstr (numL 10 (n / 10)))) ∧ Below w'.heap.size w' w'' from fun w' => ih (n / 10) (by omega) (n / 10) w' (Nat.le_refl _) (by omega))
      have hr := Lib.hid (show ∀ w', Calls Tryd.prog 18 #[.int .u64 ((n : Int) % 10)] w' fun e w'' => e = .returned (.string (bstr [hexD (n % 10)])) ∧ Below w'.heap.size w' w'' from by
        rw [← numL_small 10 (n % 10) (by omega)]; exact fun w' => ih (n % 10) (by omega) (n % 10) w' (Nat.le_refl _) (by omega))
      have hY := numL_len 10 (by omega) 62 (n / 10) (by omega)
      generalize hXn : numL 10 n = X at *
      generalize numL 10 (n / 10) = Y at *
      have hZ : [hexD (n % 10)].length = 1 := rfl
      generalize [hexD (n % 10)] = Z at *
      have hzY := size_bstr Y
      have hzZ := size_bstr Z
      have hw1 : IntKind.u64.wrap ((n : Int) / 10) = (n : Int) / 10 := by rw [IntKind.wrap_u64]; omega
      have hw2 : ((n : Int)).tmod 10 = (n : Int) % 10 := Int.tmod_eq_emod_of_nonneg (by omega)
      have tok : True := trivial
      clear ih hXn
      go_enter Tryd.func18, Tryd.ntmps18
      go_wp2_with (first
        | (go_at_call 18; have _t := tok; refine (hq.out _).mono ?_; rintro e w1 ⟨rfl, hb1⟩; clear tok)
        | (go_at_call 18; refine (hr.out _).mono ?_; rintro e w2 ⟨rfl, hb2⟩))
      go_ret
      exact ⟨by rw [hN.out, ← bstr_cat12]; rfl, hb1.trans (hb2.mono hb1.size)⟩
end Go.Proofs.YtbngnmhbnhpbeaaDoor
