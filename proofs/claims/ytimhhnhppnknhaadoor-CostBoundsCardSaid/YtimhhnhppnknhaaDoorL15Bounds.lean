/- LAYER 15, CostBounds: the walk of the law. -/
import Derived.Test.YtimhhnhppnknhaaDoorFv
namespace Go.Proofs.YtimhhnhppnknhaaDoor
set_option maxRecDepth 100000
open Go Go.RowKit

set_option maxHeartbeats 8000000 in
theorem cbounds_walk (a b : Nat) (ha : a < 2 ^ 64) (hbb : b < 2 ^ 64) (w : World) (hE : EnvC w) : Calls Tryd.prog 4 #[.int .u64 (a : Int), .int .u64 (b : Int)] w fun e w' => e = .returned (.bool true) ∧ Below w.heap.size w w' := by
  have hal := Lib.hid (calive_any w hE)
  have hb : Below w.heap.size w w := Below.refl _ _
  have k1 := Lib.hid (fun w' h => catmost_any a b ha hbb w' h)
  have k2 := Lib.hid (fun w' => fatmost_any a b ha hbb w')
  have k3 := Lib.hid (fun w' h => most_self a ▸ catmost_any a a ha ha w' h)
  have k4 := Lib.hid (fun w' h => most_nan1 b ▸ catmost_any 9221120237041090561 b (by decide) hbb w' h)
  have k5 := Lib.hid (fun w' h => most_nan2 a ▸ catmost_any a 9221120237041090561 ha (by decide) w' h)
  have k6 := Lib.hid (fun w' h => most_inf a ▸ catmost_any a 9218868437227405312 ha (by decide) w' h)
  have k7 := Lib.hid (fun w' h => most_zero1 ▸ catmost_any 9223372036854775808 0 (by decide) (by decide) w' h)
  have k8 := Lib.hid (fun w' h => most_zero2 ▸ catmost_any 0 9223372036854775808 (by decide) (by decide) w' h)
  have hn := Lib.hid (fun w' => fnan_any w')
  have hi := Lib.hid (fun w' => finf_any w')
  have hc := Lib.hid (fun w' => fmzero_any w')
  have tok1 : True := trivial
  have tok3 : True := trivial
  have tok4 : True := trivial
  have tok5 : True := trivial
  have tok6 : True := trivial
  have tok7 : True := trivial
  generalize atMostC a b = M at *
  cases hna : nanC a with
  | true =>
    rw [hna] at k3 k6
    have o1 := order_nan a ha hna
    clear hna
    go_enter Tryd.func4, Tryd.ntmps4
    go_wp2_with (first
      | (go_at_call 6; refine (hal.out).mono ?_; rintro e w' ⟨rfl, hq⟩; have hb := hb.trans (hq.mono hb.size); have hEE := hE.next hb)
      | (go_at_call 15; have _t := tok1; refine (k1.out _ hEE).mono ?_; rintro e w' ⟨rfl, hq⟩; have hb := hb.trans (hq.mono hb.size); have hEE := hE.next hb; clear tok1)
      | (go_at_call 16; refine (k2.out _).mono ?_; rintro e w' ⟨rfl, rfl⟩)
      | (go_at_call 15; have _t := tok3; refine (k3.out _ hEE).mono ?_; rintro e w' ⟨rfl, hq⟩; have hb := hb.trans (hq.mono hb.size); have hEE := hE.next hb; clear tok3)
      | (go_at_call 15; have _t := tok4; refine (k4.out _ hEE).mono ?_; rintro e w' ⟨rfl, hq⟩; have hb := hb.trans (hq.mono hb.size); have hEE := hE.next hb; clear tok4)
      | (go_at_call 15; have _t := tok5; refine (k5.out _ hEE).mono ?_; rintro e w' ⟨rfl, hq⟩; have hb := hb.trans (hq.mono hb.size); have hEE := hE.next hb; clear tok5)
      | (go_at_call 15; have _t := tok6; refine (k6.out _ hEE).mono ?_; rintro e w' ⟨rfl, hq⟩; have hb := hb.trans (hq.mono hb.size); have hEE := hE.next hb; clear tok6)
      | (go_at_call 15; have _t := tok7; refine (k7.out _ hEE).mono ?_; rintro e w' ⟨rfl, hq⟩; have hb := hb.trans (hq.mono hb.size); have hEE := hE.next hb; clear tok7)
      | (go_at_call 15; refine (k8.out _ hEE).mono ?_; rintro e w' ⟨rfl, hq⟩; have hb := hb.trans (hq.mono hb.size); have hEE := hE.next hb)
      | (go_at_call 17; refine (hn.out _).mono ?_; rintro e w' ⟨rfl, rfl⟩)
      | (go_at_call 18; refine (hi.out _).mono ?_; rintro e w' ⟨rfl, rfl⟩)
      | (go_at_call 19; refine (hc.out _).mono ?_; rintro e w' ⟨rfl, rfl⟩))
    go_ret
    exact ⟨rfl, hb⟩
  | false =>
    rw [hna] at k3 k6
    have o1 := order_eq a ha hna
    clear hna
    go_enter Tryd.func4, Tryd.ntmps4
    go_wp2_with (first
      | (go_at_call 6; refine (hal.out).mono ?_; rintro e w' ⟨rfl, hq⟩; have hb := hb.trans (hq.mono hb.size); have hEE := hE.next hb)
      | (go_at_call 15; have _t := tok1; refine (k1.out _ hEE).mono ?_; rintro e w' ⟨rfl, hq⟩; have hb := hb.trans (hq.mono hb.size); have hEE := hE.next hb; clear tok1)
      | (go_at_call 16; refine (k2.out _).mono ?_; rintro e w' ⟨rfl, rfl⟩)
      | (go_at_call 15; have _t := tok3; refine (k3.out _ hEE).mono ?_; rintro e w' ⟨rfl, hq⟩; have hb := hb.trans (hq.mono hb.size); have hEE := hE.next hb; clear tok3)
      | (go_at_call 15; have _t := tok4; refine (k4.out _ hEE).mono ?_; rintro e w' ⟨rfl, hq⟩; have hb := hb.trans (hq.mono hb.size); have hEE := hE.next hb; clear tok4)
      | (go_at_call 15; have _t := tok5; refine (k5.out _ hEE).mono ?_; rintro e w' ⟨rfl, hq⟩; have hb := hb.trans (hq.mono hb.size); have hEE := hE.next hb; clear tok5)
      | (go_at_call 15; have _t := tok6; refine (k6.out _ hEE).mono ?_; rintro e w' ⟨rfl, hq⟩; have hb := hb.trans (hq.mono hb.size); have hEE := hE.next hb; clear tok6)
      | (go_at_call 15; have _t := tok7; refine (k7.out _ hEE).mono ?_; rintro e w' ⟨rfl, hq⟩; have hb := hb.trans (hq.mono hb.size); have hEE := hE.next hb; clear tok7)
      | (go_at_call 15; refine (k8.out _ hEE).mono ?_; rintro e w' ⟨rfl, hq⟩; have hb := hb.trans (hq.mono hb.size); have hEE := hE.next hb)
      | (go_at_call 17; refine (hn.out _).mono ?_; rintro e w' ⟨rfl, rfl⟩)
      | (go_at_call 18; refine (hi.out _).mono ?_; rintro e w' ⟨rfl, rfl⟩)
      | (go_at_call 19; refine (hc.out _).mono ?_; rintro e w' ⟨rfl, rfl⟩))
    go_ret
    exact ⟨rfl, hb⟩
end Go.Proofs.YtimhhnhppnknhaaDoor
