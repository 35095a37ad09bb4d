/- LAYER 15, CostBack: the walk of the law. -/
import Derived.Test.YtimhhnhppnknhaaDoorFv
namespace Go.Proofs.YtimhhnhppnknhaaDoor
set_option maxRecDepth 100000
open Go Go.RowKit

set_option maxHeartbeats 8000000 in
theorem cback_10 (b : Nat) (hbb : b < 2 ^ 64) (s : List UInt8) (hl : s.length ≤ 300) (hn : nanC b = true) (hp : parseC s = none) (w : World) (hE : EnvD w) : Calls Tryd.prog 5 #[.int .u64 (b : Int), .string (bstr s)] w fun e w' => e = .returned (.bool true) ∧ Below w.heap.size w w' := by
  have hal := Lib.hid (calive_any w hE.toEnvC)
  have hb : Below w.heap.size w w := Below.refl _ _
  have hz := size_bstr s
  have a1 : (s.length : Int) ≤ 300 := by omega
  have h1 := Lib.hid (fun w' h => ctext_any b hbb w' h)
  have h2' := fun w' h => cparse_any (textC b) (by have := text_len b; omega) w' h
  have h3' := fun w' h => cparse_any s hl w' h
  rw [hp] at h3'
  have h3 := Lib.hid h3'
  rw [text_nan b hn, parse_nil] at h2'
  rw [text_nan b hn] at h1
  have o1 := order_nan b hbb hn
  have h2 := Lib.hid h2'
  have h5 := Lib.hid (fun w' => (decide_eq_true (rfl : (0 : Nat) = 0)) ▸ fsame_any 0 0 w')
  have tok1 : True := trivial
  have tok2 : True := trivial
  have tok3 : True := trivial
  clear h2' h3' hp hn hl
  go_enter Tryd.func5, Tryd.ntmps5
  go_wp2_with (first
    | (go_at_call 6; refine (hal.out).mono ?_; rintro e w' ⟨rfl, hq⟩; have hb := hb.trans (hq.mono hb.size); have hEE := hE.next hb)
    | (go_at_call 12; have _t := tok1; refine (h1.out _ hEE.toEnvC).mono ?_; rintro e w' ⟨rfl, hq⟩; have hb := hb.trans (hq.mono hb.size); have hEE := hE.next hb; clear tok1)
    | (go_at_call 10; have _t := tok2; refine (h2.out _ hEE).mono ?_; rintro e w' ⟨rfl, hq⟩; have hb := hb.trans (hq.mono hb.size); have hEE := hE.next hb; clear tok2)
    | (go_at_call 10; refine (h3.out _ hEE).mono ?_; rintro e w' ⟨rfl, hq⟩; have hb := hb.trans (hq.mono hb.size); have hEE := hE.next hb)
    | (go_at_call 14; refine (h5.out _).mono ?_; rintro e w' ⟨rfl, rfl⟩))
  go_ret
  exact ⟨rfl, hb⟩
set_option maxHeartbeats 8000000 in
theorem cback_11 (b : Nat) (hbb : b < 2 ^ 64) (s : List UInt8) (hl : s.length ≤ 300) (c : Nat) (hn : nanC b = true) (hp : parseC s = some c) (w : World) (hE : EnvD w) : Calls Tryd.prog 5 #[.int .u64 (b : Int), .string (bstr s)] w fun e w' => e = .returned (.bool true) ∧ Below w.heap.size w w' := by
  have hal := Lib.hid (calive_any w hE.toEnvC)
  have hb : Below w.heap.size w w := Below.refl _ _
  have hz := size_bstr s
  have a1 : (s.length : Int) ≤ 300 := by omega
  have h1 := Lib.hid (fun w' h => ctext_any b hbb w' h)
  have h2' := fun w' h => cparse_any (textC b) (by have := text_len b; omega) w' h
  have h3' := fun w' h => cparse_any s hl w' h
  rw [hp] at h3'
  have h3 := Lib.hid h3'
  rw [text_nan b hn, parse_nil] at h2'
  rw [text_nan b hn] at h1
  have o1 := order_nan b hbb hn
  have h2 := Lib.hid h2'
  obtain ⟨c1, c2, c3⟩ := (parseC_iff s c).1 hp
  have h5 := Lib.hid (fun w' h => c3 ▸ ctext_any c c1 w' h)
  have he : ((bstr s).toList == (bstr s).toList) = true := beq_self_eq_true _
  have tok1 : True := trivial
  have tok2 : True := trivial
  have tok3 : True := trivial
  clear h2' h3' hp hn hl c1 c2 c3
  go_enter Tryd.func5, Tryd.ntmps5
  go_wp2_with (first
    | (go_at_call 6; refine (hal.out).mono ?_; rintro e w' ⟨rfl, hq⟩; have hb := hb.trans (hq.mono hb.size); have hEE := hE.next hb)
    | (go_at_call 12; have _t := tok1; refine (h1.out _ hEE.toEnvC).mono ?_; rintro e w' ⟨rfl, hq⟩; have hb := hb.trans (hq.mono hb.size); have hEE := hE.next hb; clear tok1)
    | (go_at_call 10; have _t := tok2; refine (h2.out _ hEE).mono ?_; rintro e w' ⟨rfl, hq⟩; have hb := hb.trans (hq.mono hb.size); have hEE := hE.next hb; clear tok2)
    | (go_at_call 10; refine (h3.out _ hEE).mono ?_; rintro e w' ⟨rfl, hq⟩; have hb := hb.trans (hq.mono hb.size); have hEE := hE.next hb)
    | (go_at_call 12; refine (h5.out _ hEE.toEnvC).mono ?_; rintro e w' ⟨rfl, hq⟩; have hb := hb.trans (hq.mono hb.size); have hEE := hE.next hb))
  go_ret
  exact ⟨rfl, hb⟩
set_option maxHeartbeats 8000000 in
theorem cback_00 (b : Nat) (hbb : b < 2 ^ 64) (s : List UInt8) (hl : s.length ≤ 300) (hn : nanC b = false) (hp : parseC s = none) (w : World) (hE : EnvD w) : Calls Tryd.prog 5 #[.int .u64 (b : Int), .string (bstr s)] w fun e w' => e = .returned (.bool true) ∧ Below w.heap.size w w' := by
  have hal := Lib.hid (calive_any w hE.toEnvC)
  have hb : Below w.heap.size w w := Below.refl _ _
  have hz := size_bstr s
  have a1 : (s.length : Int) ≤ 300 := by omega
  have h1 := Lib.hid (fun w' h => ctext_any b hbb w' h)
  have h2' := fun w' h => cparse_any (textC b) (by have := text_len b; omega) w' h
  have h3' := fun w' h => cparse_any s hl w' h
  rw [hp] at h3'
  have h3 := Lib.hid h3'
  rw [parse_text b hbb hn] at h2'
  have o1 := order_eq b hbb hn
  have h4 := Lib.hid (fun w' => (decide_eq_true (rfl : b = b)) ▸ fsame_any b b w')
  have h2 := Lib.hid h2'
  have h5 := Lib.hid (fun w' => (decide_eq_true (rfl : (0 : Nat) = 0)) ▸ fsame_any 0 0 w')
  have tok1 : True := trivial
  have tok2 : True := trivial
  have tok3 : True := trivial
  clear h2' h3' hp hn hl
  generalize textC b = X at *
  go_enter Tryd.func5, Tryd.ntmps5
  go_wp2_with (first
    | (go_at_call 6; refine (hal.out).mono ?_; rintro e w' ⟨rfl, hq⟩; have hb := hb.trans (hq.mono hb.size); have hEE := hE.next hb)
    | (go_at_call 12; have _t := tok1; refine (h1.out _ hEE.toEnvC).mono ?_; rintro e w' ⟨rfl, hq⟩; have hb := hb.trans (hq.mono hb.size); have hEE := hE.next hb; clear tok1)
    | (go_at_call 10; have _t := tok2; refine (h2.out _ hEE).mono ?_; rintro e w' ⟨rfl, hq⟩; have hb := hb.trans (hq.mono hb.size); have hEE := hE.next hb; clear tok2)
    | (go_at_call 10; refine (h3.out _ hEE).mono ?_; rintro e w' ⟨rfl, hq⟩; have hb := hb.trans (hq.mono hb.size); have hEE := hE.next hb)
    | (go_at_call 14; have _t := tok3; refine (h4.out _).mono ?_; rintro e w' ⟨rfl, rfl⟩; clear tok3)
    | (go_at_call 14; refine (h5.out _).mono ?_; rintro e w' ⟨rfl, rfl⟩))
  go_ret
  exact ⟨rfl, hb⟩
set_option maxHeartbeats 8000000 in
theorem cback_01 (b : Nat) (hbb : b < 2 ^ 64) (s : List UInt8) (hl : s.length ≤ 300) (c : Nat) (hn : nanC b = false) (hp : parseC s = some c) (w : World) (hE : EnvD w) : Calls Tryd.prog 5 #[.int .u64 (b : Int), .string (bstr s)] w fun e w' => e = .returned (.bool true) ∧ Below w.heap.size w w' := by
  have hal := Lib.hid (calive_any w hE.toEnvC)
  have hb : Below w.heap.size w w := Below.refl _ _
  have hz := size_bstr s
  have a1 : (s.length : Int) ≤ 300 := by omega
  have h1 := Lib.hid (fun w' h => ctext_any b hbb w' h)
  have h2' := fun w' h => cparse_any (textC b) (by have := text_len b; omega) w' h
  have h3' := fun w' h => cparse_any s hl w' h
  rw [hp] at h3'
  have h3 := Lib.hid h3'
  rw [parse_text b hbb hn] at h2'
  have o1 := order_eq b hbb hn
  have h4 := Lib.hid (fun w' => (decide_eq_true (rfl : b = b)) ▸ fsame_any b b w')
  have h2 := Lib.hid h2'
  obtain ⟨c1, c2, c3⟩ := (parseC_iff s c).1 hp
  have h5 := Lib.hid (fun w' h => c3 ▸ ctext_any c c1 w' h)
  have he : ((bstr s).toList == (bstr s).toList) = true := beq_self_eq_true _
  have tok1 : True := trivial
  have tok2 : True := trivial
  have tok3 : True := trivial
  clear h2' h3' hp hn hl c1 c2 c3
  generalize textC b = X at *
  go_enter Tryd.func5, Tryd.ntmps5
  go_wp2_with (first
    | (go_at_call 6; refine (hal.out).mono ?_; rintro e w' ⟨rfl, hq⟩; have hb := hb.trans (hq.mono hb.size); have hEE := hE.next hb)
    | (go_at_call 12; have _t := tok1; refine (h1.out _ hEE.toEnvC).mono ?_; rintro e w' ⟨rfl, hq⟩; have hb := hb.trans (hq.mono hb.size); have hEE := hE.next hb; clear tok1)
    | (go_at_call 10; have _t := tok2; refine (h2.out _ hEE).mono ?_; rintro e w' ⟨rfl, hq⟩; have hb := hb.trans (hq.mono hb.size); have hEE := hE.next hb; clear tok2)
    | (go_at_call 10; refine (h3.out _ hEE).mono ?_; rintro e w' ⟨rfl, hq⟩; have hb := hb.trans (hq.mono hb.size); have hEE := hE.next hb)
    | (go_at_call 14; have _t := tok3; refine (h4.out _).mono ?_; rintro e w' ⟨rfl, rfl⟩; clear tok3)
    | (go_at_call 12; refine (h5.out _ hEE.toEnvC).mono ?_; rintro e w' ⟨rfl, hq⟩; have hb := hb.trans (hq.mono hb.size); have hEE := hE.next hb))
  go_ret
  exact ⟨rfl, hb⟩
set_option maxHeartbeats 2000000 in
theorem cback_walk (b : Nat) (hbb : b < 2 ^ 64) (s : List UInt8) (w : World) (hE : EnvD w) : Calls Tryd.prog 5 #[.int .u64 (b : Int), .string (bstr s)] w fun e w' => e = .returned (.bool true) ∧ Below w.heap.size w w' := by
  have hal := Lib.hid (calive_any w hE.toEnvC)
  have hb : Below w.heap.size w w := Below.refl _ _
  have hz := size_bstr s
  by_cases hl : 300 < s.length
  · have a1 : (300 : Int) < (s.length : Int) := by omega
    clear hl
    go_enter Tryd.func5, Tryd.ntmps5
    go_wp2_with (first
      | (go_at_call 6; refine (hal.out).mono ?_; rintro e w' ⟨rfl, hq⟩; have hb := hb.trans (hq.mono hb.size); have hEE := hE.next hb))
    go_ret
    exact ⟨rfl, hb⟩
  have a1 : (s.length : Int) ≤ 300 := by omega
  clear hal a1
  cases hn : nanC b with
  | true => cases hp : parseC s with
    | none => exact cback_10 b hbb s (by omega) hn hp w hE
    | some c => exact cback_11 b hbb s (by omega) c hn hp w hE
  | false => cases hp : parseC s with
    | none => exact cback_00 b hbb s (by omega) hn hp w hE
    | some c => exact cback_01 b hbb s (by omega) c hn hp w hE
end Go.Proofs.YtimhhnhppnknhaaDoor
