/- LAYER 15, CostTells: the walk of the law. -/
import Derived.Test.YtimhhnhppnknhaaDoorFv
namespace Go.Proofs.YtimhhnhppnknhaaDoor
set_option maxRecDepth 100000
open Go Go.RowKit

set_option maxHeartbeats 8000000 in
theorem ctells_walk (b : Nat) (hbb : b < 2 ^ 64) (s : List UInt8) (w : World) (hE : EnvD w) : Calls Tryd.prog 3 #[.int .u64 (b : Int), .string (bstr s)] w fun e w' => e = .returned (.bool true) ∧ Below w.heap.size w w' := by
  have hal := Lib.hid (calive_any w hE.toEnvC)
  have hb : Below w.heap.size w w := Below.refl _ _
  have hz := size_bstr s
  by_cases hl : 300 < s.length
  · have a1 : (300 : Int) < (s.length : Int) := by omega
    clear hl
    go_enter Tryd.func3, Tryd.ntmps3
    go_wp2_with (first
      | (go_at_call 6; refine (hal.out).mono ?_; rintro e w' ⟨rfl, hq⟩; have hb := hb.trans (hq.mono hb.size); have hEE := hE.next hb))
    go_ret
    exact ⟨rfl, hb⟩
  have a1 : (s.length : Int) ≤ 300 := by omega
  have h1 := Lib.hid (fun w' h => cparts_any b hbb w' h)
  have h2 := Lib.hid (fun w' => fparts_any b hbb w')
  have h3 := Lib.hid (fun w' h => cparse_any s (by omega) w' h)
  have h4 := Lib.hid (fun w' => fparse_any s (by omega) w')
  have h5 := Lib.hid (fun w' h => ctext_any b hbb w' h)
  have h6 := Lib.hid (fun w' => ftext_any b hbb w')
  generalize (partsC b).1 = x at *
  generalize (partsC b).2.1 = y at *
  generalize (partsC b).2.2 = z at *
  generalize (parseC s).getD 0 = g at *
  generalize (parseC s).isSome = ok at *
  generalize textC b = X at *
  have h7 := Lib.hid (fun w' => (decide_eq_true (rfl : g = g)) ▸ fsame_any g g w')
  clear hl
  go_enter Tryd.func3, Tryd.ntmps3
  go_wp2_with (first
    | (go_at_call 6; refine (hal.out).mono ?_; rintro e w' ⟨rfl, hq⟩; have hb := hb.trans (hq.mono hb.size); have hEE := hE.next hb)
    | (go_at_call 8; refine (h1.out _ hEE.toEnvC).mono ?_; rintro e w' ⟨rfl, hq⟩; have hb := hb.trans (hq.mono hb.size); have hEE := hE.next hb)
    | (go_at_call 9; refine (h2.out _).mono ?_; rintro e w' ⟨rfl, rfl⟩)
    | (go_at_call 10; refine (h3.out _ hEE).mono ?_; rintro e w' ⟨rfl, hq⟩; have hb := hb.trans (hq.mono hb.size); have hEE := hE.next hb)
    | (go_at_call 11; refine (h4.out _).mono ?_; rintro e w' ⟨rfl, hq⟩; have hb := hb.trans (hq.mono hb.size); have hEE := hE.next hb)
    | (go_at_call 12; refine (h5.out _ hEE.toEnvC).mono ?_; rintro e w' ⟨rfl, hq⟩; have hb := hb.trans (hq.mono hb.size); have hEE := hE.next hb)
    | (go_at_call 13; refine (h6.out _).mono ?_; rintro e w' ⟨rfl, hq⟩; have hb := hb.trans (hq.mono hb.size); have hEE := hE.next hb)
    | (go_at_call 14; refine (h7.out _).mono ?_; rintro e w' ⟨rfl, rfl⟩))
  go_ret
  exact ⟨rfl, hb⟩
end Go.Proofs.YtimhhnhppnknhaaDoor
