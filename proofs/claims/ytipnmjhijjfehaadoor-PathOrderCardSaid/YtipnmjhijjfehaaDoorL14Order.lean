/- LAYER 14, PathOrder: the walk of the law. -/
import Derived.Test.YtipnmjhijjfehaaDoorNw
namespace Go.Proofs.YtipnmjhijjfehaaDoor
set_option maxRecDepth 100000
open Go Go.RowKit

set_option maxHeartbeats 8000000 in
theorem porder_000 (p q s : List UInt8) (hp : p.length ≤ 500) (hq : q.length ≤ 500) (hs : s.length ≤ 500) (w : World) (hE : EnvP w) (R : Bool) (hpp : underL p p = R) (hrp : underL [47] p = R) (hr : rightL p = R) (hpq : underL p q = false) : Calls Tryd.prog 4 #[.string (bstr p), .string (bstr q), .string (bstr s)] w fun e w' => e = .returned (.bool true) ∧ Below w.heap.size w w' := by
  have hal := Lib.hid (palive_any w hE)
  have hzp := size_bstr p
  have hzq := size_bstr q
  have hzs := size_bstr s
  have a1 : decide ((500 : Int) < (p.length : Int)) = false := decide_eq_false (by omega)
  have a2 : decide ((500 : Int) < (q.length : Int)) = false := decide_eq_false (by omega)
  have a3 : decide ((500 : Int) < (s.length : Int)) = false := decide_eq_false (by omega)
  have hr1 := Lib.hid (fun w' => hr ▸ pright_any p (by omega) w')
  have k1 := Lib.hid (fun w' h => hpp ▸ punder_any p p (by omega) (by omega) w' h)
  have tok1 : True := trivial
  have k2 := Lib.hid (fun w' h => hrp ▸ punder_any [47] p (by decide) (by omega) w' h)
  have tok2 : True := trivial
  have k3 := Lib.hid (fun w' h => hpq ▸ punder_any p q (by omega) (by omega) w' h)
  have tok3 : True := trivial
  have k5 := Lib.hid (fun w' h => hpq ▸ punder_any p q (by omega) (by omega) w' h)
  have tok5 : True := trivial
  have hb : Below w.heap.size w w := Below.refl _ _
  have hn1 := Lib.hid (fun w' => pnormal_any p (by omega) w')
  clear hpp hrp hr hpq
  have tokn : True := trivial
  have tokr1 : True := trivial
  have tokr2 : True := trivial
  cases hv : normL p with
  | none =>
    rw [hv] at hn1
    have hn2 := Lib.hid (fun w' => (show normL [] = none from rfl) ▸ pnormal_any [] (by decide) w')
    have he0 : (bstr []).toList.isEmpty = true := by rw [bstr_toList]; rfl
    clear hv
    go_enter Tryd.func4, Tryd.ntmps4
    go_wp2_with (first
      | (go_at_call 5; refine hal.out.mono ?_; rintro e w' ⟨rfl, hq⟩; have hb := hb.trans (hq.mono hb.size); have hEE := hE.next hb)
      | (go_at_call 13; have _t := tok1; refine (k1.out _ hEE).mono ?_; rintro e w' ⟨rfl, hq⟩; have hb := hb.trans (hq.mono hb.size); have hEE := hE.next hb; clear tok1)
      | (go_at_call 13; have _t := tok2; refine (k2.out _ hEE).mono ?_; rintro e w' ⟨rfl, hq⟩; have hb := hb.trans (hq.mono hb.size); have hEE := hE.next hb; clear tok2)
      | (go_at_call 13; have _t := tok3; refine (k3.out _ hEE).mono ?_; rintro e w' ⟨rfl, hq⟩; have hb := hb.trans (hq.mono hb.size); have hEE := hE.next hb; clear tok3)
      | (go_at_call 13; have _t := tok5; refine (k5.out _ hEE).mono ?_; rintro e w' ⟨rfl, hq⟩; have hb := hb.trans (hq.mono hb.size); have hEE := hE.next hb; clear tok5)
      | (go_at_call 8; have _t := tokr1; refine (hr1.out _).mono ?_; rintro e w' ⟨rfl, hq⟩; have hb := hb.trans (hq.mono hb.size); have hEE := hE.next hb; clear tokr1)
      | (go_at_call 8; have _t := tokr2; refine (hr1.out _).mono ?_; rintro e w' ⟨rfl, hq⟩; have hb := hb.trans (hq.mono hb.size); have hEE := hE.next hb; clear tokr2)
      | (go_at_call 6; have _t := tokn; refine (hn1.out _).mono ?_; rintro e w' ⟨rfl, hq⟩; have hb := hb.trans (hq.mono hb.size); have hEE := hE.next hb; clear tokn)
      | (go_at_call 6; refine (hn2.out _).mono ?_; rintro e w' ⟨rfl, hq⟩; have hb := hb.trans (hq.mono hb.size); have hEE := hE.next hb))
    go_ret
    exact ⟨rfl, hb⟩
  | some x =>
    rw [hv] at hn1
    obtain ⟨hrx, hnx⟩ := normL_right p x hv
    have hxl := rightL_47 x hrx
    have hn2 := Lib.hid (fun w' => hnx ▸ pnormal_any x (by omega) w')
    have hr2 := Lib.hid (fun w' => hrx ▸ pright_any x (by omega) w')
    have he1 : ((bstr x).toList == (bstr x).toList) = true := beq_self_eq_true _
    clear hv hrx hnx
    go_enter Tryd.func4, Tryd.ntmps4
    go_wp2_with (first
      | (go_at_call 5; refine hal.out.mono ?_; rintro e w' ⟨rfl, hq⟩; have hb := hb.trans (hq.mono hb.size); have hEE := hE.next hb)
      | (go_at_call 13; have _t := tok1; refine (k1.out _ hEE).mono ?_; rintro e w' ⟨rfl, hq⟩; have hb := hb.trans (hq.mono hb.size); have hEE := hE.next hb; clear tok1)
      | (go_at_call 13; have _t := tok2; refine (k2.out _ hEE).mono ?_; rintro e w' ⟨rfl, hq⟩; have hb := hb.trans (hq.mono hb.size); have hEE := hE.next hb; clear tok2)
      | (go_at_call 13; have _t := tok3; refine (k3.out _ hEE).mono ?_; rintro e w' ⟨rfl, hq⟩; have hb := hb.trans (hq.mono hb.size); have hEE := hE.next hb; clear tok3)
      | (go_at_call 13; have _t := tok5; refine (k5.out _ hEE).mono ?_; rintro e w' ⟨rfl, hq⟩; have hb := hb.trans (hq.mono hb.size); have hEE := hE.next hb; clear tok5)
      | (go_at_call 8; have _t := tokr1; refine (hr1.out _).mono ?_; rintro e w' ⟨rfl, hq⟩; have hb := hb.trans (hq.mono hb.size); have hEE := hE.next hb; clear tokr1)
      | (go_at_call 8; have _t := tokr2; refine (hr1.out _).mono ?_; rintro e w' ⟨rfl, hq⟩; have hb := hb.trans (hq.mono hb.size); have hEE := hE.next hb; clear tokr2)
      | (go_at_call 8; refine (hr2.out _).mono ?_; rintro e w' ⟨rfl, hq⟩; have hb := hb.trans (hq.mono hb.size); have hEE := hE.next hb)
      | (go_at_call 6; have _t := tokn; refine (hn1.out _).mono ?_; rintro e w' ⟨rfl, hq⟩; have hb := hb.trans (hq.mono hb.size); have hEE := hE.next hb; clear tokn)
      | (go_at_call 6; refine (hn2.out _).mono ?_; rintro e w' ⟨rfl, hq⟩; have hb := hb.trans (hq.mono hb.size); have hEE := hE.next hb))
    go_ret
    exact ⟨rfl, hb⟩
set_option maxHeartbeats 8000000 in
theorem porder_100 (p q s : List UInt8) (hp : p.length ≤ 500) (hq : q.length ≤ 500) (hs : s.length ≤ 500) (w : World) (hE : EnvP w) (R : Bool) (hpp : underL p p = R) (hrp : underL [47] p = R) (hr : rightL p = R) (hpq : underL p q = true) (hqp : underL q p = false) (hqs : underL q s = false) : Calls Tryd.prog 4 #[.string (bstr p), .string (bstr q), .string (bstr s)] w fun e w' => e = .returned (.bool true) ∧ Below w.heap.size w w' := by
  have hal := Lib.hid (palive_any w hE)
  have hzp := size_bstr p
  have hzq := size_bstr q
  have hzs := size_bstr s
  have a1 : decide ((500 : Int) < (p.length : Int)) = false := decide_eq_false (by omega)
  have a2 : decide ((500 : Int) < (q.length : Int)) = false := decide_eq_false (by omega)
  have a3 : decide ((500 : Int) < (s.length : Int)) = false := decide_eq_false (by omega)
  have hr1 := Lib.hid (fun w' => hr ▸ pright_any p (by omega) w')
  have k1 := Lib.hid (fun w' h => hpp ▸ punder_any p p (by omega) (by omega) w' h)
  have tok1 : True := trivial
  have k2 := Lib.hid (fun w' h => hrp ▸ punder_any [47] p (by decide) (by omega) w' h)
  have tok2 : True := trivial
  have k3 := Lib.hid (fun w' h => hpq ▸ punder_any p q (by omega) (by omega) w' h)
  have tok3 : True := trivial
  have k4 := Lib.hid (fun w' h => hqp ▸ punder_any q p (by omega) (by omega) w' h)
  have tok4 : True := trivial
  have k5 := Lib.hid (fun w' h => hpq ▸ punder_any p q (by omega) (by omega) w' h)
  have tok5 : True := trivial
  have k6 := Lib.hid (fun w' h => hqs ▸ punder_any q s (by omega) (by omega) w' h)
  have tok6 : True := trivial
  have hb : Below w.heap.size w w := Below.refl _ _
  have hn1 := Lib.hid (fun w' => pnormal_any p (by omega) w')
  clear hpp hrp hr hpq hqp hqs
  have tokn : True := trivial
  have tokr1 : True := trivial
  have tokr2 : True := trivial
  cases hv : normL p with
  | none =>
    rw [hv] at hn1
    have hn2 := Lib.hid (fun w' => (show normL [] = none from rfl) ▸ pnormal_any [] (by decide) w')
    have he0 : (bstr []).toList.isEmpty = true := by rw [bstr_toList]; rfl
    clear hv
    go_enter Tryd.func4, Tryd.ntmps4
    go_wp2_with (first
      | (go_at_call 5; refine hal.out.mono ?_; rintro e w' ⟨rfl, hq⟩; have hb := hb.trans (hq.mono hb.size); have hEE := hE.next hb)
      | (go_at_call 13; have _t := tok1; refine (k1.out _ hEE).mono ?_; rintro e w' ⟨rfl, hq⟩; have hb := hb.trans (hq.mono hb.size); have hEE := hE.next hb; clear tok1)
      | (go_at_call 13; have _t := tok2; refine (k2.out _ hEE).mono ?_; rintro e w' ⟨rfl, hq⟩; have hb := hb.trans (hq.mono hb.size); have hEE := hE.next hb; clear tok2)
      | (go_at_call 13; have _t := tok3; refine (k3.out _ hEE).mono ?_; rintro e w' ⟨rfl, hq⟩; have hb := hb.trans (hq.mono hb.size); have hEE := hE.next hb; clear tok3)
      | (go_at_call 13; have _t := tok4; refine (k4.out _ hEE).mono ?_; rintro e w' ⟨rfl, hq⟩; have hb := hb.trans (hq.mono hb.size); have hEE := hE.next hb; clear tok4)
      | (go_at_call 13; have _t := tok5; refine (k5.out _ hEE).mono ?_; rintro e w' ⟨rfl, hq⟩; have hb := hb.trans (hq.mono hb.size); have hEE := hE.next hb; clear tok5)
      | (go_at_call 13; have _t := tok6; refine (k6.out _ hEE).mono ?_; rintro e w' ⟨rfl, hq⟩; have hb := hb.trans (hq.mono hb.size); have hEE := hE.next hb; clear tok6)
      | (go_at_call 8; have _t := tokr1; refine (hr1.out _).mono ?_; rintro e w' ⟨rfl, hq⟩; have hb := hb.trans (hq.mono hb.size); have hEE := hE.next hb; clear tokr1)
      | (go_at_call 8; have _t := tokr2; refine (hr1.out _).mono ?_; rintro e w' ⟨rfl, hq⟩; have hb := hb.trans (hq.mono hb.size); have hEE := hE.next hb; clear tokr2)
      | (go_at_call 6; have _t := tokn; refine (hn1.out _).mono ?_; rintro e w' ⟨rfl, hq⟩; have hb := hb.trans (hq.mono hb.size); have hEE := hE.next hb; clear tokn)
      | (go_at_call 6; refine (hn2.out _).mono ?_; rintro e w' ⟨rfl, hq⟩; have hb := hb.trans (hq.mono hb.size); have hEE := hE.next hb))
    go_ret
    exact ⟨rfl, hb⟩
  | some x =>
    rw [hv] at hn1
    obtain ⟨hrx, hnx⟩ := normL_right p x hv
    have hxl := rightL_47 x hrx
    have hn2 := Lib.hid (fun w' => hnx ▸ pnormal_any x (by omega) w')
    have hr2 := Lib.hid (fun w' => hrx ▸ pright_any x (by omega) w')
    have he1 : ((bstr x).toList == (bstr x).toList) = true := beq_self_eq_true _
    clear hv hrx hnx
    go_enter Tryd.func4, Tryd.ntmps4
    go_wp2_with (first
      | (go_at_call 5; refine hal.out.mono ?_; rintro e w' ⟨rfl, hq⟩; have hb := hb.trans (hq.mono hb.size); have hEE := hE.next hb)
      | (go_at_call 13; have _t := tok1; refine (k1.out _ hEE).mono ?_; rintro e w' ⟨rfl, hq⟩; have hb := hb.trans (hq.mono hb.size); have hEE := hE.next hb; clear tok1)
      | (go_at_call 13; have _t := tok2; refine (k2.out _ hEE).mono ?_; rintro e w' ⟨rfl, hq⟩; have hb := hb.trans (hq.mono hb.size); have hEE := hE.next hb; clear tok2)
      | (go_at_call 13; have _t := tok3; refine (k3.out _ hEE).mono ?_; rintro e w' ⟨rfl, hq⟩; have hb := hb.trans (hq.mono hb.size); have hEE := hE.next hb; clear tok3)
      | (go_at_call 13; have _t := tok4; refine (k4.out _ hEE).mono ?_; rintro e w' ⟨rfl, hq⟩; have hb := hb.trans (hq.mono hb.size); have hEE := hE.next hb; clear tok4)
      | (go_at_call 13; have _t := tok5; refine (k5.out _ hEE).mono ?_; rintro e w' ⟨rfl, hq⟩; have hb := hb.trans (hq.mono hb.size); have hEE := hE.next hb; clear tok5)
      | (go_at_call 13; have _t := tok6; refine (k6.out _ hEE).mono ?_; rintro e w' ⟨rfl, hq⟩; have hb := hb.trans (hq.mono hb.size); have hEE := hE.next hb; clear tok6)
      | (go_at_call 8; have _t := tokr1; refine (hr1.out _).mono ?_; rintro e w' ⟨rfl, hq⟩; have hb := hb.trans (hq.mono hb.size); have hEE := hE.next hb; clear tokr1)
      | (go_at_call 8; have _t := tokr2; refine (hr1.out _).mono ?_; rintro e w' ⟨rfl, hq⟩; have hb := hb.trans (hq.mono hb.size); have hEE := hE.next hb; clear tokr2)
      | (go_at_call 8; refine (hr2.out _).mono ?_; rintro e w' ⟨rfl, hq⟩; have hb := hb.trans (hq.mono hb.size); have hEE := hE.next hb)
      | (go_at_call 6; have _t := tokn; refine (hn1.out _).mono ?_; rintro e w' ⟨rfl, hq⟩; have hb := hb.trans (hq.mono hb.size); have hEE := hE.next hb; clear tokn)
      | (go_at_call 6; refine (hn2.out _).mono ?_; rintro e w' ⟨rfl, hq⟩; have hb := hb.trans (hq.mono hb.size); have hEE := hE.next hb))
    go_ret
    exact ⟨rfl, hb⟩
set_option maxHeartbeats 8000000 in
theorem porder_101 (p q s : List UInt8) (hp : p.length ≤ 500) (hq : q.length ≤ 500) (hs : s.length ≤ 500) (w : World) (hE : EnvP w) (R : Bool) (hpp : underL p p = R) (hrp : underL [47] p = R) (hr : rightL p = R) (hpq : underL p q = true) (hqp : underL q p = false) (hqs : underL q s = true) (hps : underL p s = true) : Calls Tryd.prog 4 #[.string (bstr p), .string (bstr q), .string (bstr s)] w fun e w' => e = .returned (.bool true) ∧ Below w.heap.size w w' := by
  have hal := Lib.hid (palive_any w hE)
  have hzp := size_bstr p
  have hzq := size_bstr q
  have hzs := size_bstr s
  have a1 : decide ((500 : Int) < (p.length : Int)) = false := decide_eq_false (by omega)
  have a2 : decide ((500 : Int) < (q.length : Int)) = false := decide_eq_false (by omega)
  have a3 : decide ((500 : Int) < (s.length : Int)) = false := decide_eq_false (by omega)
  have hr1 := Lib.hid (fun w' => hr ▸ pright_any p (by omega) w')
  have k1 := Lib.hid (fun w' h => hpp ▸ punder_any p p (by omega) (by omega) w' h)
  have tok1 : True := trivial
  have k2 := Lib.hid (fun w' h => hrp ▸ punder_any [47] p (by decide) (by omega) w' h)
  have tok2 : True := trivial
  have k3 := Lib.hid (fun w' h => hpq ▸ punder_any p q (by omega) (by omega) w' h)
  have tok3 : True := trivial
  have k4 := Lib.hid (fun w' h => hqp ▸ punder_any q p (by omega) (by omega) w' h)
  have tok4 : True := trivial
  have k5 := Lib.hid (fun w' h => hpq ▸ punder_any p q (by omega) (by omega) w' h)
  have tok5 : True := trivial
  have k6 := Lib.hid (fun w' h => hqs ▸ punder_any q s (by omega) (by omega) w' h)
  have tok6 : True := trivial
  have k7 := Lib.hid (fun w' h => hps ▸ punder_any p s (by omega) (by omega) w' h)
  have tok7 : True := trivial
  have hb : Below w.heap.size w w := Below.refl _ _
  have hn1 := Lib.hid (fun w' => pnormal_any p (by omega) w')
  clear hpp hrp hr hpq hqp hqs hps
  have tokn : True := trivial
  have tokr1 : True := trivial
  have tokr2 : True := trivial
  cases hv : normL p with
  | none =>
    rw [hv] at hn1
    have hn2 := Lib.hid (fun w' => (show normL [] = none from rfl) ▸ pnormal_any [] (by decide) w')
    have he0 : (bstr []).toList.isEmpty = true := by rw [bstr_toList]; rfl
    clear hv
    go_enter Tryd.func4, Tryd.ntmps4
    go_wp2_with (first
      | (go_at_call 5; refine hal.out.mono ?_; rintro e w' ⟨rfl, hq⟩; have hb := hb.trans (hq.mono hb.size); have hEE := hE.next hb)
      | (go_at_call 13; have _t := tok1; refine (k1.out _ hEE).mono ?_; rintro e w' ⟨rfl, hq⟩; have hb := hb.trans (hq.mono hb.size); have hEE := hE.next hb; clear tok1)
      | (go_at_call 13; have _t := tok2; refine (k2.out _ hEE).mono ?_; rintro e w' ⟨rfl, hq⟩; have hb := hb.trans (hq.mono hb.size); have hEE := hE.next hb; clear tok2)
      | (go_at_call 13; have _t := tok3; refine (k3.out _ hEE).mono ?_; rintro e w' ⟨rfl, hq⟩; have hb := hb.trans (hq.mono hb.size); have hEE := hE.next hb; clear tok3)
      | (go_at_call 13; have _t := tok4; refine (k4.out _ hEE).mono ?_; rintro e w' ⟨rfl, hq⟩; have hb := hb.trans (hq.mono hb.size); have hEE := hE.next hb; clear tok4)
      | (go_at_call 13; have _t := tok5; refine (k5.out _ hEE).mono ?_; rintro e w' ⟨rfl, hq⟩; have hb := hb.trans (hq.mono hb.size); have hEE := hE.next hb; clear tok5)
      | (go_at_call 13; have _t := tok6; refine (k6.out _ hEE).mono ?_; rintro e w' ⟨rfl, hq⟩; have hb := hb.trans (hq.mono hb.size); have hEE := hE.next hb; clear tok6)
      | (go_at_call 13; have _t := tok7; refine (k7.out _ hEE).mono ?_; rintro e w' ⟨rfl, hq⟩; have hb := hb.trans (hq.mono hb.size); have hEE := hE.next hb; clear tok7)
      | (go_at_call 8; have _t := tokr1; refine (hr1.out _).mono ?_; rintro e w' ⟨rfl, hq⟩; have hb := hb.trans (hq.mono hb.size); have hEE := hE.next hb; clear tokr1)
      | (go_at_call 8; have _t := tokr2; refine (hr1.out _).mono ?_; rintro e w' ⟨rfl, hq⟩; have hb := hb.trans (hq.mono hb.size); have hEE := hE.next hb; clear tokr2)
      | (go_at_call 6; have _t := tokn; refine (hn1.out _).mono ?_; rintro e w' ⟨rfl, hq⟩; have hb := hb.trans (hq.mono hb.size); have hEE := hE.next hb; clear tokn)
      | (go_at_call 6; refine (hn2.out _).mono ?_; rintro e w' ⟨rfl, hq⟩; have hb := hb.trans (hq.mono hb.size); have hEE := hE.next hb))
    go_ret
    exact ⟨rfl, hb⟩
  | some x =>
    rw [hv] at hn1
    obtain ⟨hrx, hnx⟩ := normL_right p x hv
    have hxl := rightL_47 x hrx
    have hn2 := Lib.hid (fun w' => hnx ▸ pnormal_any x (by omega) w')
    have hr2 := Lib.hid (fun w' => hrx ▸ pright_any x (by omega) w')
    have he1 : ((bstr x).toList == (bstr x).toList) = true := beq_self_eq_true _
    clear hv hrx hnx
    go_enter Tryd.func4, Tryd.ntmps4
    go_wp2_with (first
      | (go_at_call 5; refine hal.out.mono ?_; rintro e w' ⟨rfl, hq⟩; have hb := hb.trans (hq.mono hb.size); have hEE := hE.next hb)
      | (go_at_call 13; have _t := tok1; refine (k1.out _ hEE).mono ?_; rintro e w' ⟨rfl, hq⟩; have hb := hb.trans (hq.mono hb.size); have hEE := hE.next hb; clear tok1)
      | (go_at_call 13; have _t := tok2; refine (k2.out _ hEE).mono ?_; rintro e w' ⟨rfl, hq⟩; have hb := hb.trans (hq.mono hb.size); have hEE := hE.next hb; clear tok2)
      | (go_at_call 13; have _t := tok3; refine (k3.out _ hEE).mono ?_; rintro e w' ⟨rfl, hq⟩; have hb := hb.trans (hq.mono hb.size); have hEE := hE.next hb; clear tok3)
      | (go_at_call 13; have _t := tok4; refine (k4.out _ hEE).mono ?_; rintro e w' ⟨rfl, hq⟩; have hb := hb.trans (hq.mono hb.size); have hEE := hE.next hb; clear tok4)
      | (go_at_call 13; have _t := tok5; refine (k5.out _ hEE).mono ?_; rintro e w' ⟨rfl, hq⟩; have hb := hb.trans (hq.mono hb.size); have hEE := hE.next hb; clear tok5)
      | (go_at_call 13; have _t := tok6; refine (k6.out _ hEE).mono ?_; rintro e w' ⟨rfl, hq⟩; have hb := hb.trans (hq.mono hb.size); have hEE := hE.next hb; clear tok6)
      | (go_at_call 13; have _t := tok7; refine (k7.out _ hEE).mono ?_; rintro e w' ⟨rfl, hq⟩; have hb := hb.trans (hq.mono hb.size); have hEE := hE.next hb; clear tok7)
      | (go_at_call 8; have _t := tokr1; refine (hr1.out _).mono ?_; rintro e w' ⟨rfl, hq⟩; have hb := hb.trans (hq.mono hb.size); have hEE := hE.next hb; clear tokr1)
      | (go_at_call 8; have _t := tokr2; refine (hr1.out _).mono ?_; rintro e w' ⟨rfl, hq⟩; have hb := hb.trans (hq.mono hb.size); have hEE := hE.next hb; clear tokr2)
      | (go_at_call 8; refine (hr2.out _).mono ?_; rintro e w' ⟨rfl, hq⟩; have hb := hb.trans (hq.mono hb.size); have hEE := hE.next hb)
      | (go_at_call 6; have _t := tokn; refine (hn1.out _).mono ?_; rintro e w' ⟨rfl, hq⟩; have hb := hb.trans (hq.mono hb.size); have hEE := hE.next hb; clear tokn)
      | (go_at_call 6; refine (hn2.out _).mono ?_; rintro e w' ⟨rfl, hq⟩; have hb := hb.trans (hq.mono hb.size); have hEE := hE.next hb))
    go_ret
    exact ⟨rfl, hb⟩
set_option maxHeartbeats 8000000 in
theorem porder_110 (p q s : List UInt8) (hp : p.length ≤ 500) (hq : q.length ≤ 500) (hs : s.length ≤ 500) (w : World) (hE : EnvP w) (R : Bool) (hpp : underL p p = R) (hrp : underL [47] p = R) (hr : rightL p = R) (hpq : underL p q = true) (hqp : underL q p = true) (hqs : underL q s = false) (heq : p = q) : Calls Tryd.prog 4 #[.string (bstr p), .string (bstr q), .string (bstr s)] w fun e w' => e = .returned (.bool true) ∧ Below w.heap.size w w' := by
  have hal := Lib.hid (palive_any w hE)
  have hzp := size_bstr p
  have hzq := size_bstr q
  have hzs := size_bstr s
  have a1 : decide ((500 : Int) < (p.length : Int)) = false := decide_eq_false (by omega)
  have a2 : decide ((500 : Int) < (q.length : Int)) = false := decide_eq_false (by omega)
  have a3 : decide ((500 : Int) < (s.length : Int)) = false := decide_eq_false (by omega)
  have hr1 := Lib.hid (fun w' => hr ▸ pright_any p (by omega) w')
  have k1 := Lib.hid (fun w' h => hpp ▸ punder_any p p (by omega) (by omega) w' h)
  have tok1 : True := trivial
  have k2 := Lib.hid (fun w' h => hrp ▸ punder_any [47] p (by decide) (by omega) w' h)
  have tok2 : True := trivial
  have k3 := Lib.hid (fun w' h => hpq ▸ punder_any p q (by omega) (by omega) w' h)
  have tok3 : True := trivial
  have k4 := Lib.hid (fun w' h => hqp ▸ punder_any q p (by omega) (by omega) w' h)
  have tok4 : True := trivial
  have k5 := Lib.hid (fun w' h => hpq ▸ punder_any p q (by omega) (by omega) w' h)
  have tok5 : True := trivial
  have k6 := Lib.hid (fun w' h => hqs ▸ punder_any q s (by omega) (by omega) w' h)
  have tok6 : True := trivial
  have hne : ((bstr p).toList == (bstr q).toList) = true := by rw [heq]; simp
  have hb : Below w.heap.size w w := Below.refl _ _
  have hn1 := Lib.hid (fun w' => pnormal_any p (by omega) w')
  clear hpp hrp hr hpq hqp hqs heq
  have tokn : True := trivial
  have tokr1 : True := trivial
  have tokr2 : True := trivial
  cases hv : normL p with
  | none =>
    rw [hv] at hn1
    have hn2 := Lib.hid (fun w' => (show normL [] = none from rfl) ▸ pnormal_any [] (by decide) w')
    have he0 : (bstr []).toList.isEmpty = true := by rw [bstr_toList]; rfl
    clear hv
    go_enter Tryd.func4, Tryd.ntmps4
    go_wp2_with (first
      | (go_at_call 5; refine hal.out.mono ?_; rintro e w' ⟨rfl, hq⟩; have hb := hb.trans (hq.mono hb.size); have hEE := hE.next hb)
      | (go_at_call 13; have _t := tok1; refine (k1.out _ hEE).mono ?_; rintro e w' ⟨rfl, hq⟩; have hb := hb.trans (hq.mono hb.size); have hEE := hE.next hb; clear tok1)
      | (go_at_call 13; have _t := tok2; refine (k2.out _ hEE).mono ?_; rintro e w' ⟨rfl, hq⟩; have hb := hb.trans (hq.mono hb.size); have hEE := hE.next hb; clear tok2)
      | (go_at_call 13; have _t := tok3; refine (k3.out _ hEE).mono ?_; rintro e w' ⟨rfl, hq⟩; have hb := hb.trans (hq.mono hb.size); have hEE := hE.next hb; clear tok3)
      | (go_at_call 13; have _t := tok4; refine (k4.out _ hEE).mono ?_; rintro e w' ⟨rfl, hq⟩; have hb := hb.trans (hq.mono hb.size); have hEE := hE.next hb; clear tok4)
      | (go_at_call 13; have _t := tok5; refine (k5.out _ hEE).mono ?_; rintro e w' ⟨rfl, hq⟩; have hb := hb.trans (hq.mono hb.size); have hEE := hE.next hb; clear tok5)
      | (go_at_call 13; have _t := tok6; refine (k6.out _ hEE).mono ?_; rintro e w' ⟨rfl, hq⟩; have hb := hb.trans (hq.mono hb.size); have hEE := hE.next hb; clear tok6)
      | (go_at_call 8; have _t := tokr1; refine (hr1.out _).mono ?_; rintro e w' ⟨rfl, hq⟩; have hb := hb.trans (hq.mono hb.size); have hEE := hE.next hb; clear tokr1)
      | (go_at_call 8; have _t := tokr2; refine (hr1.out _).mono ?_; rintro e w' ⟨rfl, hq⟩; have hb := hb.trans (hq.mono hb.size); have hEE := hE.next hb; clear tokr2)
      | (go_at_call 6; have _t := tokn; refine (hn1.out _).mono ?_; rintro e w' ⟨rfl, hq⟩; have hb := hb.trans (hq.mono hb.size); have hEE := hE.next hb; clear tokn)
      | (go_at_call 6; refine (hn2.out _).mono ?_; rintro e w' ⟨rfl, hq⟩; have hb := hb.trans (hq.mono hb.size); have hEE := hE.next hb))
    go_ret
    exact ⟨rfl, hb⟩
  | some x =>
    rw [hv] at hn1
    obtain ⟨hrx, hnx⟩ := normL_right p x hv
    have hxl := rightL_47 x hrx
    have hn2 := Lib.hid (fun w' => hnx ▸ pnormal_any x (by omega) w')
    have hr2 := Lib.hid (fun w' => hrx ▸ pright_any x (by omega) w')
    have he1 : ((bstr x).toList == (bstr x).toList) = true := beq_self_eq_true _
    clear hv hrx hnx
    go_enter Tryd.func4, Tryd.ntmps4
    go_wp2_with (first
      | (go_at_call 5; refine hal.out.mono ?_; rintro e w' ⟨rfl, hq⟩; have hb := hb.trans (hq.mono hb.size); have hEE := hE.next hb)
      | (go_at_call 13; have _t := tok1; refine (k1.out _ hEE).mono ?_; rintro e w' ⟨rfl, hq⟩; have hb := hb.trans (hq.mono hb.size); have hEE := hE.next hb; clear tok1)
      | (go_at_call 13; have _t := tok2; refine (k2.out _ hEE).mono ?_; rintro e w' ⟨rfl, hq⟩; have hb := hb.trans (hq.mono hb.size); have hEE := hE.next hb; clear tok2)
      | (go_at_call 13; have _t := tok3; refine (k3.out _ hEE).mono ?_; rintro e w' ⟨rfl, hq⟩; have hb := hb.trans (hq.mono hb.size); have hEE := hE.next hb; clear tok3)
      | (go_at_call 13; have _t := tok4; refine (k4.out _ hEE).mono ?_; rintro e w' ⟨rfl, hq⟩; have hb := hb.trans (hq.mono hb.size); have hEE := hE.next hb; clear tok4)
      | (go_at_call 13; have _t := tok5; refine (k5.out _ hEE).mono ?_; rintro e w' ⟨rfl, hq⟩; have hb := hb.trans (hq.mono hb.size); have hEE := hE.next hb; clear tok5)
      | (go_at_call 13; have _t := tok6; refine (k6.out _ hEE).mono ?_; rintro e w' ⟨rfl, hq⟩; have hb := hb.trans (hq.mono hb.size); have hEE := hE.next hb; clear tok6)
      | (go_at_call 8; have _t := tokr1; refine (hr1.out _).mono ?_; rintro e w' ⟨rfl, hq⟩; have hb := hb.trans (hq.mono hb.size); have hEE := hE.next hb; clear tokr1)
      | (go_at_call 8; have _t := tokr2; refine (hr1.out _).mono ?_; rintro e w' ⟨rfl, hq⟩; have hb := hb.trans (hq.mono hb.size); have hEE := hE.next hb; clear tokr2)
      | (go_at_call 8; refine (hr2.out _).mono ?_; rintro e w' ⟨rfl, hq⟩; have hb := hb.trans (hq.mono hb.size); have hEE := hE.next hb)
      | (go_at_call 6; have _t := tokn; refine (hn1.out _).mono ?_; rintro e w' ⟨rfl, hq⟩; have hb := hb.trans (hq.mono hb.size); have hEE := hE.next hb; clear tokn)
      | (go_at_call 6; refine (hn2.out _).mono ?_; rintro e w' ⟨rfl, hq⟩; have hb := hb.trans (hq.mono hb.size); have hEE := hE.next hb))
    go_ret
    exact ⟨rfl, hb⟩
set_option maxHeartbeats 8000000 in
theorem porder_111 (p q s : List UInt8) (hp : p.length ≤ 500) (hq : q.length ≤ 500) (hs : s.length ≤ 500) (w : World) (hE : EnvP w) (R : Bool) (hpp : underL p p = R) (hrp : underL [47] p = R) (hr : rightL p = R) (hpq : underL p q = true) (hqp : underL q p = true) (hqs : underL q s = true) (heq : p = q) (hps : underL p s = true) : Calls Tryd.prog 4 #[.string (bstr p), .string (bstr q), .string (bstr s)] w fun e w' => e = .returned (.bool true) ∧ Below w.heap.size w w' := by
  have hal := Lib.hid (palive_any w hE)
  have hzp := size_bstr p
  have hzq := size_bstr q
  have hzs := size_bstr s
  have a1 : decide ((500 : Int) < (p.length : Int)) = false := decide_eq_false (by omega)
  have a2 : decide ((500 : Int) < (q.length : Int)) = false := decide_eq_false (by omega)
  have a3 : decide ((500 : Int) < (s.length : Int)) = false := decide_eq_false (by omega)
  have hr1 := Lib.hid (fun w' => hr ▸ pright_any p (by omega) w')
  have k1 := Lib.hid (fun w' h => hpp ▸ punder_any p p (by omega) (by omega) w' h)
  have tok1 : True := trivial
  have k2 := Lib.hid (fun w' h => hrp ▸ punder_any [47] p (by decide) (by omega) w' h)
  have tok2 : True := trivial
  have k3 := Lib.hid (fun w' h => hpq ▸ punder_any p q (by omega) (by omega) w' h)
  have tok3 : True := trivial
  have k4 := Lib.hid (fun w' h => hqp ▸ punder_any q p (by omega) (by omega) w' h)
  have tok4 : True := trivial
  have k5 := Lib.hid (fun w' h => hpq ▸ punder_any p q (by omega) (by omega) w' h)
  have tok5 : True := trivial
  have k6 := Lib.hid (fun w' h => hqs ▸ punder_any q s (by omega) (by omega) w' h)
  have tok6 : True := trivial
  have k7 := Lib.hid (fun w' h => hps ▸ punder_any p s (by omega) (by omega) w' h)
  have tok7 : True := trivial
  have hne : ((bstr p).toList == (bstr q).toList) = true := by rw [heq]; simp
  have hb : Below w.heap.size w w := Below.refl _ _
  have hn1 := Lib.hid (fun w' => pnormal_any p (by omega) w')
  clear hpp hrp hr hpq hqp hqs heq hps
  have tokn : True := trivial
  have tokr1 : True := trivial
  have tokr2 : True := trivial
  cases hv : normL p with
  | none =>
    rw [hv] at hn1
    have hn2 := Lib.hid (fun w' => (show normL [] = none from rfl) ▸ pnormal_any [] (by decide) w')
    have he0 : (bstr []).toList.isEmpty = true := by rw [bstr_toList]; rfl
    clear hv
    go_enter Tryd.func4, Tryd.ntmps4
    go_wp2_with (first
      | (go_at_call 5; refine hal.out.mono ?_; rintro e w' ⟨rfl, hq⟩; have hb := hb.trans (hq.mono hb.size); have hEE := hE.next hb)
      | (go_at_call 13; have _t := tok1; refine (k1.out _ hEE).mono ?_; rintro e w' ⟨rfl, hq⟩; have hb := hb.trans (hq.mono hb.size); have hEE := hE.next hb; clear tok1)
      | (go_at_call 13; have _t := tok2; refine (k2.out _ hEE).mono ?_; rintro e w' ⟨rfl, hq⟩; have hb := hb.trans (hq.mono hb.size); have hEE := hE.next hb; clear tok2)
      | (go_at_call 13; have _t := tok3; refine (k3.out _ hEE).mono ?_; rintro e w' ⟨rfl, hq⟩; have hb := hb.trans (hq.mono hb.size); have hEE := hE.next hb; clear tok3)
      | (go_at_call 13; have _t := tok4; refine (k4.out _ hEE).mono ?_; rintro e w' ⟨rfl, hq⟩; have hb := hb.trans (hq.mono hb.size); have hEE := hE.next hb; clear tok4)
      | (go_at_call 13; have _t := tok5; refine (k5.out _ hEE).mono ?_; rintro e w' ⟨rfl, hq⟩; have hb := hb.trans (hq.mono hb.size); have hEE := hE.next hb; clear tok5)
      | (go_at_call 13; have _t := tok6; refine (k6.out _ hEE).mono ?_; rintro e w' ⟨rfl, hq⟩; have hb := hb.trans (hq.mono hb.size); have hEE := hE.next hb; clear tok6)
      | (go_at_call 13; have _t := tok7; refine (k7.out _ hEE).mono ?_; rintro e w' ⟨rfl, hq⟩; have hb := hb.trans (hq.mono hb.size); have hEE := hE.next hb; clear tok7)
      | (go_at_call 8; have _t := tokr1; refine (hr1.out _).mono ?_; rintro e w' ⟨rfl, hq⟩; have hb := hb.trans (hq.mono hb.size); have hEE := hE.next hb; clear tokr1)
      | (go_at_call 8; have _t := tokr2; refine (hr1.out _).mono ?_; rintro e w' ⟨rfl, hq⟩; have hb := hb.trans (hq.mono hb.size); have hEE := hE.next hb; clear tokr2)
      | (go_at_call 6; have _t := tokn; refine (hn1.out _).mono ?_; rintro e w' ⟨rfl, hq⟩; have hb := hb.trans (hq.mono hb.size); have hEE := hE.next hb; clear tokn)
      | (go_at_call 6; refine (hn2.out _).mono ?_; rintro e w' ⟨rfl, hq⟩; have hb := hb.trans (hq.mono hb.size); have hEE := hE.next hb))
    go_ret
    exact ⟨rfl, hb⟩
  | some x =>
    rw [hv] at hn1
    obtain ⟨hrx, hnx⟩ := normL_right p x hv
    have hxl := rightL_47 x hrx
    have hn2 := Lib.hid (fun w' => hnx ▸ pnormal_any x (by omega) w')
    have hr2 := Lib.hid (fun w' => hrx ▸ pright_any x (by omega) w')
    have he1 : ((bstr x).toList == (bstr x).toList) = true := beq_self_eq_true _
    clear hv hrx hnx
    go_enter Tryd.func4, Tryd.ntmps4
    go_wp2_with (first
      | (go_at_call 5; refine hal.out.mono ?_; rintro e w' ⟨rfl, hq⟩; have hb := hb.trans (hq.mono hb.size); have hEE := hE.next hb)
      | (go_at_call 13; have _t := tok1; refine (k1.out _ hEE).mono ?_; rintro e w' ⟨rfl, hq⟩; have hb := hb.trans (hq.mono hb.size); have hEE := hE.next hb; clear tok1)
      | (go_at_call 13; have _t := tok2; refine (k2.out _ hEE).mono ?_; rintro e w' ⟨rfl, hq⟩; have hb := hb.trans (hq.mono hb.size); have hEE := hE.next hb; clear tok2)
      | (go_at_call 13; have _t := tok3; refine (k3.out _ hEE).mono ?_; rintro e w' ⟨rfl, hq⟩; have hb := hb.trans (hq.mono hb.size); have hEE := hE.next hb; clear tok3)
      | (go_at_call 13; have _t := tok4; refine (k4.out _ hEE).mono ?_; rintro e w' ⟨rfl, hq⟩; have hb := hb.trans (hq.mono hb.size); have hEE := hE.next hb; clear tok4)
      | (go_at_call 13; have _t := tok5; refine (k5.out _ hEE).mono ?_; rintro e w' ⟨rfl, hq⟩; have hb := hb.trans (hq.mono hb.size); have hEE := hE.next hb; clear tok5)
      | (go_at_call 13; have _t := tok6; refine (k6.out _ hEE).mono ?_; rintro e w' ⟨rfl, hq⟩; have hb := hb.trans (hq.mono hb.size); have hEE := hE.next hb; clear tok6)
      | (go_at_call 13; have _t := tok7; refine (k7.out _ hEE).mono ?_; rintro e w' ⟨rfl, hq⟩; have hb := hb.trans (hq.mono hb.size); have hEE := hE.next hb; clear tok7)
      | (go_at_call 8; have _t := tokr1; refine (hr1.out _).mono ?_; rintro e w' ⟨rfl, hq⟩; have hb := hb.trans (hq.mono hb.size); have hEE := hE.next hb; clear tokr1)
      | (go_at_call 8; have _t := tokr2; refine (hr1.out _).mono ?_; rintro e w' ⟨rfl, hq⟩; have hb := hb.trans (hq.mono hb.size); have hEE := hE.next hb; clear tokr2)
      | (go_at_call 8; refine (hr2.out _).mono ?_; rintro e w' ⟨rfl, hq⟩; have hb := hb.trans (hq.mono hb.size); have hEE := hE.next hb)
      | (go_at_call 6; have _t := tokn; refine (hn1.out _).mono ?_; rintro e w' ⟨rfl, hq⟩; have hb := hb.trans (hq.mono hb.size); have hEE := hE.next hb; clear tokn)
      | (go_at_call 6; refine (hn2.out _).mono ?_; rintro e w' ⟨rfl, hq⟩; have hb := hb.trans (hq.mono hb.size); have hEE := hE.next hb))
    go_ret
    exact ⟨rfl, hb⟩
set_option maxHeartbeats 2000000 in
theorem porder_walk (p q s : List UInt8) (w : World) (hE : EnvP w) : Calls Tryd.prog 4 #[.string (bstr p), .string (bstr q), .string (bstr s)] w fun e w' => e = .returned (.bool true) ∧ Below w.heap.size w w' := by
  have hal := Lib.hid (palive_any w hE)
  have hzp := size_bstr p
  have hzq := size_bstr q
  have hzs := size_bstr s
  by_cases h1 : 500 < p.length
  · have a1 : (500 : Int) < (p.length : Int) := by omega
    clear h1
    go_enter Tryd.func4, Tryd.ntmps4
    go_wp2_with (go_at_call 5; refine hal.out.mono ?_; rintro e w1 ⟨rfl, hb1⟩)
    go_ret
    exact ⟨rfl, hb1⟩
  have a1 : decide ((500 : Int) < (p.length : Int)) = false := decide_eq_false (by omega)
  by_cases h2 : 500 < q.length
  · have a2 : (500 : Int) < (q.length : Int) := by omega
    clear h1 h2
    go_enter Tryd.func4, Tryd.ntmps4
    go_wp2_with (go_at_call 5; refine hal.out.mono ?_; rintro e w1 ⟨rfl, hb1⟩)
    go_ret
    exact ⟨rfl, hb1⟩
  have a2 : decide ((500 : Int) < (q.length : Int)) = false := decide_eq_false (by omega)
  by_cases h3 : 500 < s.length
  · have a3 : (500 : Int) < (s.length : Int) := by omega
    clear h1 h2 h3
    go_enter Tryd.func4, Tryd.ntmps4
    go_wp2_with (go_at_call 5; refine hal.out.mono ?_; rintro e w1 ⟨rfl, hb1⟩)
    go_ret
    exact ⟨rfl, hb1⟩
  have a3 : decide ((500 : Int) < (s.length : Int)) = false := decide_eq_false (by omega)
  have hp : p.length ≤ 500 := by omega
  have hq : q.length ≤ 500 := by omega
  have hs : s.length ≤ 500 := by omega
  cases ha : underL p q with
  | false => exact porder_000 p q s hp hq hs w hE _ (underL_self p) (underL_root p) rfl ha
  | true =>
    cases hb : underL q p with
    | false =>
      cases hc : underL q s with
      | false => exact porder_100 p q s hp hq hs w hE _ (underL_self p) (underL_root p) rfl ha hb hc
      | true => exact porder_101 p q s hp hq hs w hE _ (underL_self p) (underL_root p) rfl ha hb hc (underL_trans p q s ha hc)
    | true =>
      cases hc : underL q s with
      | false => exact porder_110 p q s hp hq hs w hE _ (underL_self p) (underL_root p) rfl ha hb hc (underL_anti p q ha hb)
      | true => exact porder_111 p q s hp hq hs w hE _ (underL_self p) (underL_root p) rfl ha hb hc (underL_anti p q ha hb) (underL_trans p q s ha hc)
end Go.Proofs.YtipnmjhijjfehaaDoor
