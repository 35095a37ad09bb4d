/- Texts of this claim, one behind the other. -/
import Derived.Test.YtflebnbpoboljaaDoorGL13Ba
/- LAYER 13, NetBack: ways of its walk (the text is a range's). -/
namespace Go.Proofs.YtflebnbpoboljaaDoor
set_option maxRecDepth 100000
open Go Go.RowKit

set_option maxHeartbeats 4000000 in
theorem nb_As {w w1 : World} {Q P VA VB X Y : List Value} {na nb : Int} {sl : Nat} {S TA : ByteArray} (c : NBk w w1 Q P VA VB na nb sl S TA) (x18 : Rng18 X) (y18 : Rng18 Y) (hpa : ∀ w', Env w' → Calls Tryd.prog 7 #[.string TA] w' fun e w'' => e = .returned (.tuple #[.agg X.toArray, .bool false]) ∧ Below w'.heap.size w' w'') (hcka : ∀ w', Calls Tryd.prog 11 #[.agg Q.toArray] w' fun e w'' => e = .returned (.bool false) ∧ Below w'.heap.size w' w'') (hps : ∀ w', Env w' → Calls Tryd.prog 7 #[.string S] w' fun e w'' => e = .returned (.tuple #[.agg Y.toArray, .bool true]) ∧ Below w'.heap.size w' w'') (hty : ∀ w', Env w' → Calls Tryd.prog 13 #[.agg Y.toArray] w' fun e w'' => e = .returned (.string S) ∧ Below w'.heap.size w' w'') :
    Calls Tryd.prog 5 #[.agg Q.toArray, .agg P.toArray, .string S] w fun e w' => e = .returned (.bool true) ∧ Below w.heap.size w w' := by
  obtain ⟨r1, p1, hb1, hE1, hw, hQ, hP, lA, lB, q18, p18, htx, h5', hzs, hSS⟩ := c
  have hal := Lib.hid (fun w' hE => netAlive_any w' hE)
  have hpa := Lib.hid hpa
  have hcka := Lib.hid hcka
  have hps := Lib.hid hps
  have hty := Lib.hid hty
  have htx := Lib.hid htx
  have HW := Lib.hid hw
  have HQ := Lib.hid hQ
  have HP := Lib.hid hP
  have hzVA := Lib.hid (show (Tryd.prog.info? 24).map (·.size) = some VA.length by rw [lA]; exact size_adr)
  have hzVB := Lib.hid (show (Tryd.prog.info? 24).map (·.size) = some VB.length by rw [lB]; exact size_adr)
  have hzQ := Lib.hid q18.z
  have hzP := Lib.hid p18.z
  have hzX := Lib.hid x18.z
  have hzX2 := Lib.hid x18.z2
  have hzX8 := Lib.hid x18.z8
  have hzX1 := Lib.hid x18.o
  have hzY := Lib.hid y18.z
  have hzY2 := Lib.hid y18.z2
  have hzY8 := Lib.hid y18.z8
  have hzY1 := Lib.hid y18.o
  clear hw hQ hP lA lB q18 p18 x18 y18
  go_enter Tryd.func5, Tryd.ntmps5
  have stk : True := trivial
  go_wp2_with (first
    | (go_at_call 6; rw [← HW.out]; refine (hal.out _ hE1).mono ?_; rintro e w2 ⟨rfl, hq⟩; have hE0 := hE1.next hq; have r1 := r1.later hq r1.lt; have p1 := p1.later hq p1.lt; have hb0 := hb1.trans (hq.mono hb1.size))
    | ((with_reducible refine wpList_step fun K hK => ?_); refine step_load_mid (some 17) rfl (by rfl) 26 (.tmp 3) rfl w.heap.size 0 rfl Q _ (row_range r1) Tryd.underlying26 rfl hzQ.out ?_; refine hK _ _ ?_; clear hK)
    | (go_at_call 13; refine (htx.out _ hE0).mono ?_; rintro e w3 ⟨rfl, hq⟩; have hE0 := hE0.next hq; have r1 := r1.later hq r1.lt; have p1 := p1.later hq p1.lt; have hb0 := hb0.trans (hq.mono hb0.size))
    | (go_at_call 7; refine (hpa.out _ hE0).mono ?_; rintro e w5 ⟨rfl, hq⟩; have hE0 := hE0.next hq; have r1 := r1.later hq r1.lt; have p1 := p1.later hq p1.lt; have hb0 := hb0.trans (hq.mono hb0.size))
    | (have _t := stk; refine wpList_store_row rfl 26 (.tmp 7) (.tmp 20) rfl w5.heap.size X.toArray rfl rfl 26 _ (heap_alloc_new w5 _) hzX2.out hzX8.out hzX1.out ?_; refine Hid.out ?_))
  refine Lib.hid ?_
  generalize hw4 : World.setRow _ _ _ = w4
  obtain ⟨x1, hq⟩ := row_new_set (xs := X) hw4
  have hE0 := hE0.next hq
  have r1 := r1.later hq r1.lt
  have p1 := p1.later hq p1.lt
  have hb0 := hb0.trans (hq.mono hb0.size)
  clear hw4 hq
  generalize w5.heap.size = g7 at *
  have tk1 : True := trivial
  have tk2 : True := trivial
  have tk3 : True := trivial
  have tk4 : True := trivial
  go_wp2_with (first
    | ((with_reducible refine wpList_step fun K hK => ?_); refine step_load_mid (some 23) rfl (by rfl) 26 (.tmp 3) rfl w.heap.size 0 rfl Q _ (row_range r1) Tryd.underlying26 rfl hzQ.out ?_; refine hK _ _ ?_; clear hK)
    | (go_at_call 11; have _t := tk1; refine (hcka.out _).mono ?_; rintro e w6 ⟨rfl, hq⟩; have hE0 := hE0.next hq; have r1 := r1.later hq r1.lt; have p1 := p1.later hq p1.lt; have hb0 := hb0.trans (hq.mono hb0.size); have x1 := x1.later hq x1.lt; clear tk1)
    | (go_at_call 11; have _t := tk2; refine (hcka.out _).mono ?_; rintro e w8 ⟨rfl, hq⟩; have hE0 := hE0.next hq; have r1 := r1.later hq r1.lt; have p1 := p1.later hq p1.lt; have hb0 := hb0.trans (hq.mono hb0.size); have x1 := x1.later hq x1.lt; clear tk2)
    | ((with_reducible refine wpList_step fun K hK => ?_); refine step_load_mid (some 34) rfl (by rfl) 26 (.tmp 3) rfl w.heap.size 0 rfl Q _ (row_range r1) Tryd.underlying26 rfl hzQ.out ?_; refine hK _ _ ?_; clear hK)
    | ((with_reducible refine wpList_step fun K hK => ?_); refine step_load_mid (some 37) rfl (by rfl) 26 (.tmp 4) rfl (w.heap.size + 1) 0 rfl P _ (row_range p1) Tryd.underlying26 rfl hzP.out ?_; refine hK _ _ ?_; clear hK)
    | ((with_reducible refine wpList_step fun K hK => ?_); refine step_load_mid (some 41) rfl (by rfl) 26 (.tmp 3) rfl w.heap.size 0 rfl Q _ (row_range r1) Tryd.underlying26 rfl hzQ.out ?_; refine hK _ _ ?_; clear hK)
    | ((with_reducible refine wpList_step fun K hK => ?_); refine step_load_mid (some 42) rfl (by rfl) 26 (.tmp 4) rfl (w.heap.size + 1) 0 rfl P _ (row_range p1) Tryd.underlying26 rfl hzP.out ?_; refine hK _ _ ?_; clear hK)
    | ((with_reducible refine wpList_step fun K hK => ?_); refine step_load_mid (some 47) rfl (by rfl) 26 (.tmp 4) rfl (w.heap.size + 1) 0 rfl P _ (row_range p1) Tryd.underlying26 rfl hzP.out ?_; refine hK _ _ ?_; clear hK)
    | ((with_reducible refine wpList_step fun K hK => ?_); refine step_load_mid (some 48) rfl (by rfl) 26 (.tmp 3) rfl w.heap.size 0 rfl Q _ (row_range r1) Tryd.underlying26 rfl hzQ.out ?_; refine hK _ _ ?_; clear hK)
    | ((with_reducible refine wpList_step fun K hK => ?_); refine step_load_mid (some 53) rfl (by rfl) 26 (.tmp 3) rfl w.heap.size 0 rfl Q _ (row_range r1) Tryd.underlying26 rfl hzQ.out ?_; refine hK _ _ ?_; clear hK)
    | ((with_reducible refine wpList_step fun K hK => ?_); refine step_load_mid (some 55) rfl (by rfl) 24 (.tmp 54) rfl (w.heap.size + 1) 0 rfl VB _ (row_part' HP.out p1) Tryd.underlying24 rfl hzVB.out ?_; refine hK _ _ ?_; clear hK)
    | ((with_reducible refine wpList_step fun K hK => ?_); refine step_load_mid (some 58) rfl (by rfl) 26 (.tmp 4) rfl (w.heap.size + 1) 0 rfl P _ (row_range p1) Tryd.underlying26 rfl hzP.out ?_; refine hK _ _ ?_; clear hK)
    | ((with_reducible refine wpList_step fun K hK => ?_); refine step_load_mid (some 60) rfl (by rfl) 24 (.tmp 59) rfl w.heap.size 0 rfl VA _ (row_part' HQ.out r1) Tryd.underlying24 rfl hzVA.out ?_; refine hK _ _ ?_; clear hK)
    | (go_at_call 7; refine (hps.out _ hE0).mono ?_; rintro e w9 ⟨rfl, hq⟩; have hE0 := hE0.next hq; have r1 := r1.later hq r1.lt; have p1 := p1.later hq p1.lt; have hb0 := hb0.trans (hq.mono hb0.size); have x1 := x1.later hq x1.lt)
    | (have _t := stk; refine wpList_store_row rfl 26 (.tmp 9) (.tmp 67) rfl w9.heap.size Y.toArray rfl rfl 26 _ (heap_alloc_new w9 _) hzY2.out hzY8.out hzY1.out ?_; refine Hid.out ?_))
  refine Lib.hid ?_
  generalize hw4 : World.setRow _ _ _ = w4
  obtain ⟨y1, hq⟩ := row_new_set (xs := Y) hw4
  have hE0 := hE0.next hq
  have r1 := r1.later hq r1.lt
  have p1 := p1.later hq p1.lt
  have x1 := x1.later hq x1.lt
  have hb0 := hb0.trans (hq.mono hb0.size)
  clear hw4 hq
  generalize w9.heap.size = g9 at *
  go_wp2_with (first
    | ((with_reducible refine wpList_step fun K hK => ?_); refine step_load_mid (some 79) rfl (by rfl) 26 (.tmp 9) rfl g9 0 rfl Y _ (row_range y1) Tryd.underlying26 rfl hzY.out ?_; refine hK _ _ ?_; clear hK)
    | (go_at_call 13; refine (hty.out _ hE0).mono ?_; rintro e w10 ⟨rfl, hq⟩; have hE0 := hE0.next hq; have r1 := r1.later hq r1.lt; have p1 := p1.later hq p1.lt; have hb0 := hb0.trans (hq.mono hb0.size); have x1 := x1.later hq x1.lt; have y1 := y1.later hq y1.lt))
  go_ret
  exact ⟨rfl, hb0⟩
set_option maxHeartbeats 4000000 in
theorem nb_Bs {w w1 : World} {Q P VA VB X Y : List Value} {na nb : Int} {sl : Nat} {S TA : ByteArray} (c : NBk w w1 Q P VA VB na nb sl S TA) (x18 : Rng18 X) (y18 : Rng18 Y) (hpa : ∀ w', Env w' → Calls Tryd.prog 7 #[.string TA] w' fun e w'' => e = .returned (.tuple #[.agg X.toArray, .bool true]) ∧ Below w'.heap.size w' w'') (hcka : ∀ w', Calls Tryd.prog 11 #[.agg Q.toArray] w' fun e w'' => e = .returned (.bool true) ∧ Below w'.heap.size w' w'') (hps : ∀ w', Env w' → Calls Tryd.prog 7 #[.string S] w' fun e w'' => e = .returned (.tuple #[.agg Y.toArray, .bool true]) ∧ Below w'.heap.size w' w'') (hckb : ∀ w', Calls Tryd.prog 11 #[.agg P.toArray] w' fun e w'' => e = .returned (.bool false) ∧ Below w'.heap.size w' w'') (hEq : ∀ w, (Op.equalIn 10000 26 (.agg X.toArray) (.agg Q.toArray)).run Tryd.prog w = .ok true w) (hty : ∀ w', Env w' → Calls Tryd.prog 13 #[.agg Y.toArray] w' fun e w'' => e = .returned (.string S) ∧ Below w'.heap.size w' w'') :
    Calls Tryd.prog 5 #[.agg Q.toArray, .agg P.toArray, .string S] w fun e w' => e = .returned (.bool true) ∧ Below w.heap.size w w' := by
  obtain ⟨r1, p1, hb1, hE1, hw, hQ, hP, lA, lB, q18, p18, htx, h5', hzs, hSS⟩ := c
  have hal := Lib.hid (fun w' hE => netAlive_any w' hE)
  have hpa := Lib.hid hpa
  have hcka := Lib.hid hcka
  have hps := Lib.hid hps
  have hckb := Lib.hid hckb
  have hty := Lib.hid hty
  have htx := Lib.hid htx
  have HW := Lib.hid hw
  have HQ := Lib.hid hQ
  have HP := Lib.hid hP
  have hzVA := Lib.hid (show (Tryd.prog.info? 24).map (·.size) = some VA.length by rw [lA]; exact size_adr)
  have hzVB := Lib.hid (show (Tryd.prog.info? 24).map (·.size) = some VB.length by rw [lB]; exact size_adr)
  have hzQ := Lib.hid q18.z
  have hzP := Lib.hid p18.z
  have hzX := Lib.hid x18.z
  have hzX2 := Lib.hid x18.z2
  have hzX8 := Lib.hid x18.z8
  have hzX1 := Lib.hid x18.o
  have hzY := Lib.hid y18.z
  have hzY2 := Lib.hid y18.z2
  have hzY8 := Lib.hid y18.z8
  have hzY1 := Lib.hid y18.o
  clear hw hQ hP lA lB q18 p18 x18 y18
  go_enter Tryd.func5, Tryd.ntmps5
  have stk : True := trivial
  go_wp2_with (first
    | (go_at_call 6; rw [← HW.out]; refine (hal.out _ hE1).mono ?_; rintro e w2 ⟨rfl, hq⟩; have hE0 := hE1.next hq; have r1 := r1.later hq r1.lt; have p1 := p1.later hq p1.lt; have hb0 := hb1.trans (hq.mono hb1.size))
    | ((with_reducible refine wpList_step fun K hK => ?_); refine step_load_mid (some 17) rfl (by rfl) 26 (.tmp 3) rfl w.heap.size 0 rfl Q _ (row_range r1) Tryd.underlying26 rfl hzQ.out ?_; refine hK _ _ ?_; clear hK)
    | (go_at_call 13; refine (htx.out _ hE0).mono ?_; rintro e w3 ⟨rfl, hq⟩; have hE0 := hE0.next hq; have r1 := r1.later hq r1.lt; have p1 := p1.later hq p1.lt; have hb0 := hb0.trans (hq.mono hb0.size))
    | (go_at_call 7; refine (hpa.out _ hE0).mono ?_; rintro e w5 ⟨rfl, hq⟩; have hE0 := hE0.next hq; have r1 := r1.later hq r1.lt; have p1 := p1.later hq p1.lt; have hb0 := hb0.trans (hq.mono hb0.size))
    | (have _t := stk; refine wpList_store_row rfl 26 (.tmp 7) (.tmp 20) rfl w5.heap.size X.toArray rfl rfl 26 _ (heap_alloc_new w5 _) hzX2.out hzX8.out hzX1.out ?_; refine Hid.out ?_))
  refine Lib.hid ?_
  generalize hw4 : World.setRow _ _ _ = w4
  obtain ⟨x1, hq⟩ := row_new_set (xs := X) hw4
  have hE0 := hE0.next hq
  have r1 := r1.later hq r1.lt
  have p1 := p1.later hq p1.lt
  have hb0 := hb0.trans (hq.mono hb0.size)
  clear hw4 hq
  generalize w5.heap.size = g7 at *
  have tk1 : True := trivial
  have tk2 : True := trivial
  have tk3 : True := trivial
  have tk4 : True := trivial
  go_wp2_with (first
    | ((with_reducible refine wpList_step fun K hK => ?_); refine step_load_mid (some 23) rfl (by rfl) 26 (.tmp 3) rfl w.heap.size 0 rfl Q _ (row_range r1) Tryd.underlying26 rfl hzQ.out ?_; refine hK _ _ ?_; clear hK)
    | (go_at_call 11; have _t := tk1; refine (hcka.out _).mono ?_; rintro e w6 ⟨rfl, hq⟩; have hE0 := hE0.next hq; have r1 := r1.later hq r1.lt; have p1 := p1.later hq p1.lt; have hb0 := hb0.trans (hq.mono hb0.size); have x1 := x1.later hq x1.lt; clear tk1)
    | (go_at_call 11; have _t := tk2; refine (hcka.out _).mono ?_; rintro e w8 ⟨rfl, hq⟩; have hE0 := hE0.next hq; have r1 := r1.later hq r1.lt; have p1 := p1.later hq p1.lt; have hb0 := hb0.trans (hq.mono hb0.size); have x1 := x1.later hq x1.lt; clear tk2)
    | ((with_reducible refine wpList_step fun K hK => ?_); refine step_load_mid (some 29) rfl (by rfl) 26 (.tmp 7) rfl g7 0 rfl X _ (row_range x1) Tryd.underlying26 rfl hzX.out ?_; refine hK _ _ ?_; clear hK)
    | ((with_reducible refine wpList_step fun K hK => ?_); refine step_load_mid (some 30) rfl (by rfl) 26 (.tmp 3) rfl w.heap.size 0 rfl Q _ (row_range r1) Tryd.underlying26 rfl hzQ.out ?_; refine hK _ _ ?_; clear hK)
    | ((with_reducible refine wpList_step fun K hK => ?_); refine step_load_mid (some 34) rfl (by rfl) 26 (.tmp 3) rfl w.heap.size 0 rfl Q _ (row_range r1) Tryd.underlying26 rfl hzQ.out ?_; refine hK _ _ ?_; clear hK)
    | ((with_reducible refine wpList_step fun K hK => ?_); refine step_load_mid (some 37) rfl (by rfl) 26 (.tmp 4) rfl (w.heap.size + 1) 0 rfl P _ (row_range p1) Tryd.underlying26 rfl hzP.out ?_; refine hK _ _ ?_; clear hK)
    | ((with_reducible refine wpList_step fun K hK => ?_); refine step_load_mid (some 41) rfl (by rfl) 26 (.tmp 3) rfl w.heap.size 0 rfl Q _ (row_range r1) Tryd.underlying26 rfl hzQ.out ?_; refine hK _ _ ?_; clear hK)
    | ((with_reducible refine wpList_step fun K hK => ?_); refine step_load_mid (some 42) rfl (by rfl) 26 (.tmp 4) rfl (w.heap.size + 1) 0 rfl P _ (row_range p1) Tryd.underlying26 rfl hzP.out ?_; refine hK _ _ ?_; clear hK)
    | ((with_reducible refine wpList_step fun K hK => ?_); refine step_load_mid (some 47) rfl (by rfl) 26 (.tmp 4) rfl (w.heap.size + 1) 0 rfl P _ (row_range p1) Tryd.underlying26 rfl hzP.out ?_; refine hK _ _ ?_; clear hK)
    | ((with_reducible refine wpList_step fun K hK => ?_); refine step_load_mid (some 48) rfl (by rfl) 26 (.tmp 3) rfl w.heap.size 0 rfl Q _ (row_range r1) Tryd.underlying26 rfl hzQ.out ?_; refine hK _ _ ?_; clear hK)
    | ((with_reducible refine wpList_step fun K hK => ?_); refine step_load_mid (some 53) rfl (by rfl) 26 (.tmp 3) rfl w.heap.size 0 rfl Q _ (row_range r1) Tryd.underlying26 rfl hzQ.out ?_; refine hK _ _ ?_; clear hK)
    | ((with_reducible refine wpList_step fun K hK => ?_); refine step_load_mid (some 55) rfl (by rfl) 24 (.tmp 54) rfl (w.heap.size + 1) 0 rfl VB _ (row_part' HP.out p1) Tryd.underlying24 rfl hzVB.out ?_; refine hK _ _ ?_; clear hK)
    | ((with_reducible refine wpList_step fun K hK => ?_); refine step_load_mid (some 58) rfl (by rfl) 26 (.tmp 4) rfl (w.heap.size + 1) 0 rfl P _ (row_range p1) Tryd.underlying26 rfl hzP.out ?_; refine hK _ _ ?_; clear hK)
    | ((with_reducible refine wpList_step fun K hK => ?_); refine step_load_mid (some 60) rfl (by rfl) 24 (.tmp 59) rfl w.heap.size 0 rfl VA _ (row_part' HQ.out r1) Tryd.underlying24 rfl hzVA.out ?_; refine hK _ _ ?_; clear hK)
    | (go_at_call 11; refine (hckb.out _).mono ?_; rintro e w7 ⟨rfl, hq⟩; have hE0 := hE0.next hq; have r1 := r1.later hq r1.lt; have p1 := p1.later hq p1.lt; have hb0 := hb0.trans (hq.mono hb0.size); have x1 := x1.later hq x1.lt)
    | (go_at_call 7; refine (hps.out _ hE0).mono ?_; rintro e w9 ⟨rfl, hq⟩; have hE0 := hE0.next hq; have r1 := r1.later hq r1.lt; have p1 := p1.later hq p1.lt; have hb0 := hb0.trans (hq.mono hb0.size); have x1 := x1.later hq x1.lt)
    | (have _t := stk; refine wpList_store_row rfl 26 (.tmp 9) (.tmp 67) rfl w9.heap.size Y.toArray rfl rfl 26 _ (heap_alloc_new w9 _) hzY2.out hzY8.out hzY1.out ?_; refine Hid.out ?_))
  refine Lib.hid ?_
  generalize hw4 : World.setRow _ _ _ = w4
  obtain ⟨y1, hq⟩ := row_new_set (xs := Y) hw4
  have hE0 := hE0.next hq
  have r1 := r1.later hq r1.lt
  have p1 := p1.later hq p1.lt
  have x1 := x1.later hq x1.lt
  have hb0 := hb0.trans (hq.mono hb0.size)
  clear hw4 hq
  generalize w9.heap.size = g9 at *
  go_wp2_with (first
    | ((with_reducible refine wpList_step fun K hK => ?_); refine step_load_mid (some 79) rfl (by rfl) 26 (.tmp 9) rfl g9 0 rfl Y _ (row_range y1) Tryd.underlying26 rfl hzY.out ?_; refine hK _ _ ?_; clear hK)
    | (go_at_call 13; refine (hty.out _ hE0).mono ?_; rintro e w10 ⟨rfl, hq⟩; have hE0 := hE0.next hq; have r1 := r1.later hq r1.lt; have p1 := p1.later hq p1.lt; have hb0 := hb0.trans (hq.mono hb0.size); have x1 := x1.later hq x1.lt; have y1 := y1.later hq y1.lt))
  go_ret
  exact ⟨rfl, hb0⟩
set_option maxHeartbeats 4000000 in
theorem nb_Cs {w w1 : World} {Q P VA VB X Y : List Value} {na nb : Int} {sl : Nat} {S TA : ByteArray} (c : NBk w w1 Q P VA VB na nb sl S TA) (x18 : Rng18 X) (y18 : Rng18 Y) (hpa : ∀ w', Env w' → Calls Tryd.prog 7 #[.string TA] w' fun e w'' => e = .returned (.tuple #[.agg X.toArray, .bool true]) ∧ Below w'.heap.size w' w'') (hcka : ∀ w', Calls Tryd.prog 11 #[.agg Q.toArray] w' fun e w'' => e = .returned (.bool true) ∧ Below w'.heap.size w' w'') (hps : ∀ w', Env w' → Calls Tryd.prog 7 #[.string S] w' fun e w'' => e = .returned (.tuple #[.agg Y.toArray, .bool true]) ∧ Below w'.heap.size w' w'') (hckb : ∀ w', Calls Tryd.prog 11 #[.agg P.toArray] w' fun e w'' => e = .returned (.bool true) ∧ Below w'.heap.size w' w'') (hw1c : ∀ w', Calls Tryd.prog 17 #[.agg Q.toArray, .agg P.toArray] w' fun e w'' => e = .returned (.bool true) ∧ Below w'.heap.size w' w'') (hEq : ∀ w, (Op.equalIn 10000 26 (.agg X.toArray) (.agg Q.toArray)).run Tryd.prog w = .ok true w) (hty : ∀ w', Env w' → Calls Tryd.prog 13 #[.agg Y.toArray] w' fun e w'' => e = .returned (.string S) ∧ Below w'.heap.size w' w'') :
    Calls Tryd.prog 5 #[.agg Q.toArray, .agg P.toArray, .string S] w fun e w' => e = .returned (.bool true) ∧ Below w.heap.size w w' := by
  obtain ⟨r1, p1, hb1, hE1, hw, hQ, hP, lA, lB, q18, p18, htx, h5', hzs, hSS⟩ := c
  have hal := Lib.hid (fun w' hE => netAlive_any w' hE)
  have hpa := Lib.hid hpa
  have hcka := Lib.hid hcka
  have hps := Lib.hid hps
  have hckb := Lib.hid hckb
  have hw1c := Lib.hid hw1c
  have hty := Lib.hid hty
  have htx := Lib.hid htx
  have HW := Lib.hid hw
  have HQ := Lib.hid hQ
  have HP := Lib.hid hP
  have hzVA := Lib.hid (show (Tryd.prog.info? 24).map (·.size) = some VA.length by rw [lA]; exact size_adr)
  have hzVB := Lib.hid (show (Tryd.prog.info? 24).map (·.size) = some VB.length by rw [lB]; exact size_adr)
  have hzQ := Lib.hid q18.z
  have hzP := Lib.hid p18.z
  have hzX := Lib.hid x18.z
  have hzX2 := Lib.hid x18.z2
  have hzX8 := Lib.hid x18.z8
  have hzX1 := Lib.hid x18.o
  have hzY := Lib.hid y18.z
  have hzY2 := Lib.hid y18.z2
  have hzY8 := Lib.hid y18.z8
  have hzY1 := Lib.hid y18.o
  clear hw hQ hP lA lB q18 p18 x18 y18
  go_enter Tryd.func5, Tryd.ntmps5
  have stk : True := trivial
  go_wp2_with (first
    | (go_at_call 6; rw [← HW.out]; refine (hal.out _ hE1).mono ?_; rintro e w2 ⟨rfl, hq⟩; have hE0 := hE1.next hq; have r1 := r1.later hq r1.lt; have p1 := p1.later hq p1.lt; have hb0 := hb1.trans (hq.mono hb1.size))
    | ((with_reducible refine wpList_step fun K hK => ?_); refine step_load_mid (some 17) rfl (by rfl) 26 (.tmp 3) rfl w.heap.size 0 rfl Q _ (row_range r1) Tryd.underlying26 rfl hzQ.out ?_; refine hK _ _ ?_; clear hK)
    | (go_at_call 13; refine (htx.out _ hE0).mono ?_; rintro e w3 ⟨rfl, hq⟩; have hE0 := hE0.next hq; have r1 := r1.later hq r1.lt; have p1 := p1.later hq p1.lt; have hb0 := hb0.trans (hq.mono hb0.size))
    | (go_at_call 7; refine (hpa.out _ hE0).mono ?_; rintro e w5 ⟨rfl, hq⟩; have hE0 := hE0.next hq; have r1 := r1.later hq r1.lt; have p1 := p1.later hq p1.lt; have hb0 := hb0.trans (hq.mono hb0.size))
    | (have _t := stk; refine wpList_store_row rfl 26 (.tmp 7) (.tmp 20) rfl w5.heap.size X.toArray rfl rfl 26 _ (heap_alloc_new w5 _) hzX2.out hzX8.out hzX1.out ?_; refine Hid.out ?_))
  refine Lib.hid ?_
  generalize hw4 : World.setRow _ _ _ = w4
  obtain ⟨x1, hq⟩ := row_new_set (xs := X) hw4
  have hE0 := hE0.next hq
  have r1 := r1.later hq r1.lt
  have p1 := p1.later hq p1.lt
  have hb0 := hb0.trans (hq.mono hb0.size)
  clear hw4 hq
  generalize w5.heap.size = g7 at *
  have tk1 : True := trivial
  have tk2 : True := trivial
  have tk3 : True := trivial
  have tk4 : True := trivial
  go_wp2_with (first
    | ((with_reducible refine wpList_step fun K hK => ?_); refine step_load_mid (some 23) rfl (by rfl) 26 (.tmp 3) rfl w.heap.size 0 rfl Q _ (row_range r1) Tryd.underlying26 rfl hzQ.out ?_; refine hK _ _ ?_; clear hK)
    | (go_at_call 11; have _t := tk1; refine (hcka.out _).mono ?_; rintro e w6 ⟨rfl, hq⟩; have hE0 := hE0.next hq; have r1 := r1.later hq r1.lt; have p1 := p1.later hq p1.lt; have hb0 := hb0.trans (hq.mono hb0.size); have x1 := x1.later hq x1.lt; clear tk1)
    | (go_at_call 11; have _t := tk2; refine (hcka.out _).mono ?_; rintro e w8 ⟨rfl, hq⟩; have hE0 := hE0.next hq; have r1 := r1.later hq r1.lt; have p1 := p1.later hq p1.lt; have hb0 := hb0.trans (hq.mono hb0.size); have x1 := x1.later hq x1.lt; clear tk2)
    | ((with_reducible refine wpList_step fun K hK => ?_); refine step_load_mid (some 29) rfl (by rfl) 26 (.tmp 7) rfl g7 0 rfl X _ (row_range x1) Tryd.underlying26 rfl hzX.out ?_; refine hK _ _ ?_; clear hK)
    | ((with_reducible refine wpList_step fun K hK => ?_); refine step_load_mid (some 30) rfl (by rfl) 26 (.tmp 3) rfl w.heap.size 0 rfl Q _ (row_range r1) Tryd.underlying26 rfl hzQ.out ?_; refine hK _ _ ?_; clear hK)
    | ((with_reducible refine wpList_step fun K hK => ?_); refine step_load_mid (some 34) rfl (by rfl) 26 (.tmp 3) rfl w.heap.size 0 rfl Q _ (row_range r1) Tryd.underlying26 rfl hzQ.out ?_; refine hK _ _ ?_; clear hK)
    | ((with_reducible refine wpList_step fun K hK => ?_); refine step_load_mid (some 37) rfl (by rfl) 26 (.tmp 4) rfl (w.heap.size + 1) 0 rfl P _ (row_range p1) Tryd.underlying26 rfl hzP.out ?_; refine hK _ _ ?_; clear hK)
    | ((with_reducible refine wpList_step fun K hK => ?_); refine step_load_mid (some 41) rfl (by rfl) 26 (.tmp 3) rfl w.heap.size 0 rfl Q _ (row_range r1) Tryd.underlying26 rfl hzQ.out ?_; refine hK _ _ ?_; clear hK)
    | ((with_reducible refine wpList_step fun K hK => ?_); refine step_load_mid (some 42) rfl (by rfl) 26 (.tmp 4) rfl (w.heap.size + 1) 0 rfl P _ (row_range p1) Tryd.underlying26 rfl hzP.out ?_; refine hK _ _ ?_; clear hK)
    | ((with_reducible refine wpList_step fun K hK => ?_); refine step_load_mid (some 47) rfl (by rfl) 26 (.tmp 4) rfl (w.heap.size + 1) 0 rfl P _ (row_range p1) Tryd.underlying26 rfl hzP.out ?_; refine hK _ _ ?_; clear hK)
    | ((with_reducible refine wpList_step fun K hK => ?_); refine step_load_mid (some 48) rfl (by rfl) 26 (.tmp 3) rfl w.heap.size 0 rfl Q _ (row_range r1) Tryd.underlying26 rfl hzQ.out ?_; refine hK _ _ ?_; clear hK)
    | ((with_reducible refine wpList_step fun K hK => ?_); refine step_load_mid (some 53) rfl (by rfl) 26 (.tmp 3) rfl w.heap.size 0 rfl Q _ (row_range r1) Tryd.underlying26 rfl hzQ.out ?_; refine hK _ _ ?_; clear hK)
    | ((with_reducible refine wpList_step fun K hK => ?_); refine step_load_mid (some 55) rfl (by rfl) 24 (.tmp 54) rfl (w.heap.size + 1) 0 rfl VB _ (row_part' HP.out p1) Tryd.underlying24 rfl hzVB.out ?_; refine hK _ _ ?_; clear hK)
    | ((with_reducible refine wpList_step fun K hK => ?_); refine step_load_mid (some 58) rfl (by rfl) 26 (.tmp 4) rfl (w.heap.size + 1) 0 rfl P _ (row_range p1) Tryd.underlying26 rfl hzP.out ?_; refine hK _ _ ?_; clear hK)
    | ((with_reducible refine wpList_step fun K hK => ?_); refine step_load_mid (some 60) rfl (by rfl) 24 (.tmp 59) rfl w.heap.size 0 rfl VA _ (row_part' HQ.out r1) Tryd.underlying24 rfl hzVA.out ?_; refine hK _ _ ?_; clear hK)
    | (go_at_call 11; refine (hckb.out _).mono ?_; rintro e w7 ⟨rfl, hq⟩; have hE0 := hE0.next hq; have r1 := r1.later hq r1.lt; have p1 := p1.later hq p1.lt; have hb0 := hb0.trans (hq.mono hb0.size); have x1 := x1.later hq x1.lt)
    | (go_at_call 17; have _t := tk3; refine (hw1c.out _).mono ?_; rintro e w11 ⟨rfl, hq⟩; have hE0 := hE0.next hq; have r1 := r1.later hq r1.lt; have p1 := p1.later hq p1.lt; have hb0 := hb0.trans (hq.mono hb0.size); have x1 := x1.later hq x1.lt; clear tk3)
    | (go_at_call 7; refine (hps.out _ hE0).mono ?_; rintro e w9 ⟨rfl, hq⟩; have hE0 := hE0.next hq; have r1 := r1.later hq r1.lt; have p1 := p1.later hq p1.lt; have hb0 := hb0.trans (hq.mono hb0.size); have x1 := x1.later hq x1.lt)
    | (have _t := stk; refine wpList_store_row rfl 26 (.tmp 9) (.tmp 67) rfl w9.heap.size Y.toArray rfl rfl 26 _ (heap_alloc_new w9 _) hzY2.out hzY8.out hzY1.out ?_; refine Hid.out ?_))
  refine Lib.hid ?_
  generalize hw4 : World.setRow _ _ _ = w4
  obtain ⟨y1, hq⟩ := row_new_set (xs := Y) hw4
  have hE0 := hE0.next hq
  have r1 := r1.later hq r1.lt
  have p1 := p1.later hq p1.lt
  have x1 := x1.later hq x1.lt
  have hb0 := hb0.trans (hq.mono hb0.size)
  clear hw4 hq
  generalize w9.heap.size = g9 at *
  go_wp2_with (first
    | ((with_reducible refine wpList_step fun K hK => ?_); refine step_load_mid (some 79) rfl (by rfl) 26 (.tmp 9) rfl g9 0 rfl Y _ (row_range y1) Tryd.underlying26 rfl hzY.out ?_; refine hK _ _ ?_; clear hK)
    | (go_at_call 13; refine (hty.out _ hE0).mono ?_; rintro e w10 ⟨rfl, hq⟩; have hE0 := hE0.next hq; have r1 := r1.later hq r1.lt; have p1 := p1.later hq p1.lt; have hb0 := hb0.trans (hq.mono hb0.size); have x1 := x1.later hq x1.lt; have y1 := y1.later hq y1.lt))
  go_ret
  exact ⟨rfl, hb0⟩
end Go.Proofs.YtflebnbpoboljaaDoor

/- LAYER 13, NetBack: ways of its walk (the text is a range's). -/
namespace Go.Proofs.YtflebnbpoboljaaDoor
set_option maxRecDepth 100000
open Go Go.RowKit

set_option maxHeartbeats 4000000 in
theorem nb_Ds {w w1 : World} {Q P VA VB X Y : List Value} {na nb : Int} {sl : Nat} {S TA : ByteArray} (c : NBk w w1 Q P VA VB na nb sl S TA) (x18 : Rng18 X) (y18 : Rng18 Y) (hpa : ∀ w', Env w' → Calls Tryd.prog 7 #[.string TA] w' fun e w'' => e = .returned (.tuple #[.agg X.toArray, .bool true]) ∧ Below w'.heap.size w' w'') (hcka : ∀ w', Calls Tryd.prog 11 #[.agg Q.toArray] w' fun e w'' => e = .returned (.bool true) ∧ Below w'.heap.size w' w'') (hps : ∀ w', Env w' → Calls Tryd.prog 7 #[.string S] w' fun e w'' => e = .returned (.tuple #[.agg Y.toArray, .bool true]) ∧ Below w'.heap.size w' w'') (hckb : ∀ w', Calls Tryd.prog 11 #[.agg P.toArray] w' fun e w'' => e = .returned (.bool true) ∧ Below w'.heap.size w' w'') (hw1c : ∀ w', Calls Tryd.prog 17 #[.agg Q.toArray, .agg P.toArray] w' fun e w'' => e = .returned (.bool false) ∧ Below w'.heap.size w' w'') (hw2c : ∀ w', Calls Tryd.prog 17 #[.agg P.toArray, .agg Q.toArray] w' fun e w'' => e = .returned (.bool true) ∧ Below w'.heap.size w' w'') (hEq : ∀ w, (Op.equalIn 10000 26 (.agg X.toArray) (.agg Q.toArray)).run Tryd.prog w = .ok true w) (hty : ∀ w', Env w' → Calls Tryd.prog 13 #[.agg Y.toArray] w' fun e w'' => e = .returned (.string S) ∧ Below w'.heap.size w' w'') :
    Calls Tryd.prog 5 #[.agg Q.toArray, .agg P.toArray, .string S] w fun e w' => e = .returned (.bool true) ∧ Below w.heap.size w w' := by
  obtain ⟨r1, p1, hb1, hE1, hw, hQ, hP, lA, lB, q18, p18, htx, h5', hzs, hSS⟩ := c
  have hal := Lib.hid (fun w' hE => netAlive_any w' hE)
  have hpa := Lib.hid hpa
  have hcka := Lib.hid hcka
  have hps := Lib.hid hps
  have hckb := Lib.hid hckb
  have hw1c := Lib.hid hw1c
  have hw2c := Lib.hid hw2c
  have hty := Lib.hid hty
  have htx := Lib.hid htx
  have HW := Lib.hid hw
  have HQ := Lib.hid hQ
  have HP := Lib.hid hP
  have hzVA := Lib.hid (show (Tryd.prog.info? 24).map (·.size) = some VA.length by rw [lA]; exact size_adr)
  have hzVB := Lib.hid (show (Tryd.prog.info? 24).map (·.size) = some VB.length by rw [lB]; exact size_adr)
  have hzQ := Lib.hid q18.z
  have hzP := Lib.hid p18.z
  have hzX := Lib.hid x18.z
  have hzX2 := Lib.hid x18.z2
  have hzX8 := Lib.hid x18.z8
  have hzX1 := Lib.hid x18.o
  have hzY := Lib.hid y18.z
  have hzY2 := Lib.hid y18.z2
  have hzY8 := Lib.hid y18.z8
  have hzY1 := Lib.hid y18.o
  clear hw hQ hP lA lB q18 p18 x18 y18
  go_enter Tryd.func5, Tryd.ntmps5
  have stk : True := trivial
  go_wp2_with (first
    | (go_at_call 6; rw [← HW.out]; refine (hal.out _ hE1).mono ?_; rintro e w2 ⟨rfl, hq⟩; have hE0 := hE1.next hq; have r1 := r1.later hq r1.lt; have p1 := p1.later hq p1.lt; have hb0 := hb1.trans (hq.mono hb1.size))
    | ((with_reducible refine wpList_step fun K hK => ?_); refine step_load_mid (some 17) rfl (by rfl) 26 (.tmp 3) rfl w.heap.size 0 rfl Q _ (row_range r1) Tryd.underlying26 rfl hzQ.out ?_; refine hK _ _ ?_; clear hK)
    | (go_at_call 13; refine (htx.out _ hE0).mono ?_; rintro e w3 ⟨rfl, hq⟩; have hE0 := hE0.next hq; have r1 := r1.later hq r1.lt; have p1 := p1.later hq p1.lt; have hb0 := hb0.trans (hq.mono hb0.size))
    | (go_at_call 7; refine (hpa.out _ hE0).mono ?_; rintro e w5 ⟨rfl, hq⟩; have hE0 := hE0.next hq; have r1 := r1.later hq r1.lt; have p1 := p1.later hq p1.lt; have hb0 := hb0.trans (hq.mono hb0.size))
    | (have _t := stk; refine wpList_store_row rfl 26 (.tmp 7) (.tmp 20) rfl w5.heap.size X.toArray rfl rfl 26 _ (heap_alloc_new w5 _) hzX2.out hzX8.out hzX1.out ?_; refine Hid.out ?_))
  refine Lib.hid ?_
  generalize hw4 : World.setRow _ _ _ = w4
  obtain ⟨x1, hq⟩ := row_new_set (xs := X) hw4
  have hE0 := hE0.next hq
  have r1 := r1.later hq r1.lt
  have p1 := p1.later hq p1.lt
  have hb0 := hb0.trans (hq.mono hb0.size)
  clear hw4 hq
  generalize w5.heap.size = g7 at *
  have tk1 : True := trivial
  have tk2 : True := trivial
  have tk3 : True := trivial
  have tk4 : True := trivial
  go_wp2_with (first
    | ((with_reducible refine wpList_step fun K hK => ?_); refine step_load_mid (some 23) rfl (by rfl) 26 (.tmp 3) rfl w.heap.size 0 rfl Q _ (row_range r1) Tryd.underlying26 rfl hzQ.out ?_; refine hK _ _ ?_; clear hK)
    | (go_at_call 11; have _t := tk1; refine (hcka.out _).mono ?_; rintro e w6 ⟨rfl, hq⟩; have hE0 := hE0.next hq; have r1 := r1.later hq r1.lt; have p1 := p1.later hq p1.lt; have hb0 := hb0.trans (hq.mono hb0.size); have x1 := x1.later hq x1.lt; clear tk1)
    | (go_at_call 11; have _t := tk2; refine (hcka.out _).mono ?_; rintro e w8 ⟨rfl, hq⟩; have hE0 := hE0.next hq; have r1 := r1.later hq r1.lt; have p1 := p1.later hq p1.lt; have hb0 := hb0.trans (hq.mono hb0.size); have x1 := x1.later hq x1.lt; clear tk2)
    | ((with_reducible refine wpList_step fun K hK => ?_); refine step_load_mid (some 29) rfl (by rfl) 26 (.tmp 7) rfl g7 0 rfl X _ (row_range x1) Tryd.underlying26 rfl hzX.out ?_; refine hK _ _ ?_; clear hK)
    | ((with_reducible refine wpList_step fun K hK => ?_); refine step_load_mid (some 30) rfl (by rfl) 26 (.tmp 3) rfl w.heap.size 0 rfl Q _ (row_range r1) Tryd.underlying26 rfl hzQ.out ?_; refine hK _ _ ?_; clear hK)
    | ((with_reducible refine wpList_step fun K hK => ?_); refine step_load_mid (some 34) rfl (by rfl) 26 (.tmp 3) rfl w.heap.size 0 rfl Q _ (row_range r1) Tryd.underlying26 rfl hzQ.out ?_; refine hK _ _ ?_; clear hK)
    | ((with_reducible refine wpList_step fun K hK => ?_); refine step_load_mid (some 37) rfl (by rfl) 26 (.tmp 4) rfl (w.heap.size + 1) 0 rfl P _ (row_range p1) Tryd.underlying26 rfl hzP.out ?_; refine hK _ _ ?_; clear hK)
    | ((with_reducible refine wpList_step fun K hK => ?_); refine step_load_mid (some 41) rfl (by rfl) 26 (.tmp 3) rfl w.heap.size 0 rfl Q _ (row_range r1) Tryd.underlying26 rfl hzQ.out ?_; refine hK _ _ ?_; clear hK)
    | ((with_reducible refine wpList_step fun K hK => ?_); refine step_load_mid (some 42) rfl (by rfl) 26 (.tmp 4) rfl (w.heap.size + 1) 0 rfl P _ (row_range p1) Tryd.underlying26 rfl hzP.out ?_; refine hK _ _ ?_; clear hK)
    | ((with_reducible refine wpList_step fun K hK => ?_); refine step_load_mid (some 47) rfl (by rfl) 26 (.tmp 4) rfl (w.heap.size + 1) 0 rfl P _ (row_range p1) Tryd.underlying26 rfl hzP.out ?_; refine hK _ _ ?_; clear hK)
    | ((with_reducible refine wpList_step fun K hK => ?_); refine step_load_mid (some 48) rfl (by rfl) 26 (.tmp 3) rfl w.heap.size 0 rfl Q _ (row_range r1) Tryd.underlying26 rfl hzQ.out ?_; refine hK _ _ ?_; clear hK)
    | ((with_reducible refine wpList_step fun K hK => ?_); refine step_load_mid (some 53) rfl (by rfl) 26 (.tmp 3) rfl w.heap.size 0 rfl Q _ (row_range r1) Tryd.underlying26 rfl hzQ.out ?_; refine hK _ _ ?_; clear hK)
    | ((with_reducible refine wpList_step fun K hK => ?_); refine step_load_mid (some 55) rfl (by rfl) 24 (.tmp 54) rfl (w.heap.size + 1) 0 rfl VB _ (row_part' HP.out p1) Tryd.underlying24 rfl hzVB.out ?_; refine hK _ _ ?_; clear hK)
    | ((with_reducible refine wpList_step fun K hK => ?_); refine step_load_mid (some 58) rfl (by rfl) 26 (.tmp 4) rfl (w.heap.size + 1) 0 rfl P _ (row_range p1) Tryd.underlying26 rfl hzP.out ?_; refine hK _ _ ?_; clear hK)
    | ((with_reducible refine wpList_step fun K hK => ?_); refine step_load_mid (some 60) rfl (by rfl) 24 (.tmp 59) rfl w.heap.size 0 rfl VA _ (row_part' HQ.out r1) Tryd.underlying24 rfl hzVA.out ?_; refine hK _ _ ?_; clear hK)
    | (go_at_call 11; refine (hckb.out _).mono ?_; rintro e w7 ⟨rfl, hq⟩; have hE0 := hE0.next hq; have r1 := r1.later hq r1.lt; have p1 := p1.later hq p1.lt; have hb0 := hb0.trans (hq.mono hb0.size); have x1 := x1.later hq x1.lt)
    | (go_at_call 17; have _t := tk3; refine (hw1c.out _).mono ?_; rintro e w11 ⟨rfl, hq⟩; have hE0 := hE0.next hq; have r1 := r1.later hq r1.lt; have p1 := p1.later hq p1.lt; have hb0 := hb0.trans (hq.mono hb0.size); have x1 := x1.later hq x1.lt; clear tk3)
    | (go_at_call 17; refine (hw2c.out _).mono ?_; rintro e w12 ⟨rfl, hq⟩; have hE0 := hE0.next hq; have r1 := r1.later hq r1.lt; have p1 := p1.later hq p1.lt; have hb0 := hb0.trans (hq.mono hb0.size); have x1 := x1.later hq x1.lt)
    | (go_at_call 7; refine (hps.out _ hE0).mono ?_; rintro e w9 ⟨rfl, hq⟩; have hE0 := hE0.next hq; have r1 := r1.later hq r1.lt; have p1 := p1.later hq p1.lt; have hb0 := hb0.trans (hq.mono hb0.size); have x1 := x1.later hq x1.lt)
    | (have _t := stk; refine wpList_store_row rfl 26 (.tmp 9) (.tmp 67) rfl w9.heap.size Y.toArray rfl rfl 26 _ (heap_alloc_new w9 _) hzY2.out hzY8.out hzY1.out ?_; refine Hid.out ?_))
  refine Lib.hid ?_
  generalize hw4 : World.setRow _ _ _ = w4
  obtain ⟨y1, hq⟩ := row_new_set (xs := Y) hw4
  have hE0 := hE0.next hq
  have r1 := r1.later hq r1.lt
  have p1 := p1.later hq p1.lt
  have x1 := x1.later hq x1.lt
  have hb0 := hb0.trans (hq.mono hb0.size)
  clear hw4 hq
  generalize w9.heap.size = g9 at *
  go_wp2_with (first
    | ((with_reducible refine wpList_step fun K hK => ?_); refine step_load_mid (some 79) rfl (by rfl) 26 (.tmp 9) rfl g9 0 rfl Y _ (row_range y1) Tryd.underlying26 rfl hzY.out ?_; refine hK _ _ ?_; clear hK)
    | (go_at_call 13; refine (hty.out _ hE0).mono ?_; rintro e w10 ⟨rfl, hq⟩; have hE0 := hE0.next hq; have r1 := r1.later hq r1.lt; have p1 := p1.later hq p1.lt; have hb0 := hb0.trans (hq.mono hb0.size); have x1 := x1.later hq x1.lt; have y1 := y1.later hq y1.lt))
  go_ret
  exact ⟨rfl, hb0⟩
set_option maxHeartbeats 4000000 in
theorem nb_Es {w w1 : World} {Q P VA VB X Y : List Value} {na nb : Int} {sl : Nat} {S TA : ByteArray} (c : NBk w w1 Q P VA VB na nb sl S TA) (x18 : Rng18 X) (y18 : Rng18 Y) (hpa : ∀ w', Env w' → Calls Tryd.prog 7 #[.string TA] w' fun e w'' => e = .returned (.tuple #[.agg X.toArray, .bool true]) ∧ Below w'.heap.size w' w'') (hcka : ∀ w', Calls Tryd.prog 11 #[.agg Q.toArray] w' fun e w'' => e = .returned (.bool true) ∧ Below w'.heap.size w' w'') (hps : ∀ w', Env w' → Calls Tryd.prog 7 #[.string S] w' fun e w'' => e = .returned (.tuple #[.agg Y.toArray, .bool true]) ∧ Below w'.heap.size w' w'') (hckb : ∀ w', Calls Tryd.prog 11 #[.agg P.toArray] w' fun e w'' => e = .returned (.bool true) ∧ Below w'.heap.size w' w'') (hw1c : ∀ w', Calls Tryd.prog 17 #[.agg Q.toArray, .agg P.toArray] w' fun e w'' => e = .returned (.bool false) ∧ Below w'.heap.size w' w'') (hw2c : ∀ w', Calls Tryd.prog 17 #[.agg P.toArray, .agg Q.toArray] w' fun e w'' => e = .returned (.bool false) ∧ Below w'.heap.size w' w'') (hh1 : ∀ w', Calls Tryd.prog 15 #[.agg Q.toArray, .agg VB.toArray] w' fun e w'' => e = .returned (.bool false) ∧ Below w'.heap.size w' w'') (hh2 : ∀ w', Calls Tryd.prog 15 #[.agg P.toArray, .agg VA.toArray] w' fun e w'' => e = .returned (.bool false) ∧ Below w'.heap.size w' w'') (hEq : ∀ w, (Op.equalIn 10000 26 (.agg X.toArray) (.agg Q.toArray)).run Tryd.prog w = .ok true w) (hty : ∀ w', Env w' → Calls Tryd.prog 13 #[.agg Y.toArray] w' fun e w'' => e = .returned (.string S) ∧ Below w'.heap.size w' w'') :
    Calls Tryd.prog 5 #[.agg Q.toArray, .agg P.toArray, .string S] w fun e w' => e = .returned (.bool true) ∧ Below w.heap.size w w' := by
  obtain ⟨r1, p1, hb1, hE1, hw, hQ, hP, lA, lB, q18, p18, htx, h5', hzs, hSS⟩ := c
  have hal := Lib.hid (fun w' hE => netAlive_any w' hE)
  have hpa := Lib.hid hpa
  have hcka := Lib.hid hcka
  have hps := Lib.hid hps
  have hckb := Lib.hid hckb
  have hw1c := Lib.hid hw1c
  have hw2c := Lib.hid hw2c
  have hh1 := Lib.hid hh1
  have hh2 := Lib.hid hh2
  have hty := Lib.hid hty
  have htx := Lib.hid htx
  have HW := Lib.hid hw
  have HQ := Lib.hid hQ
  have HP := Lib.hid hP
  have hzVA := Lib.hid (show (Tryd.prog.info? 24).map (·.size) = some VA.length by rw [lA]; exact size_adr)
  have hzVB := Lib.hid (show (Tryd.prog.info? 24).map (·.size) = some VB.length by rw [lB]; exact size_adr)
  have hzQ := Lib.hid q18.z
  have hzP := Lib.hid p18.z
  have hzX := Lib.hid x18.z
  have hzX2 := Lib.hid x18.z2
  have hzX8 := Lib.hid x18.z8
  have hzX1 := Lib.hid x18.o
  have hzY := Lib.hid y18.z
  have hzY2 := Lib.hid y18.z2
  have hzY8 := Lib.hid y18.z8
  have hzY1 := Lib.hid y18.o
  clear hw hQ hP lA lB q18 p18 x18 y18
  go_enter Tryd.func5, Tryd.ntmps5
  have stk : True := trivial
  go_wp2_with (first
    | (go_at_call 6; rw [← HW.out]; refine (hal.out _ hE1).mono ?_; rintro e w2 ⟨rfl, hq⟩; have hE0 := hE1.next hq; have r1 := r1.later hq r1.lt; have p1 := p1.later hq p1.lt; have hb0 := hb1.trans (hq.mono hb1.size))
    | ((with_reducible refine wpList_step fun K hK => ?_); refine step_load_mid (some 17) rfl (by rfl) 26 (.tmp 3) rfl w.heap.size 0 rfl Q _ (row_range r1) Tryd.underlying26 rfl hzQ.out ?_; refine hK _ _ ?_; clear hK)
    | (go_at_call 13; refine (htx.out _ hE0).mono ?_; rintro e w3 ⟨rfl, hq⟩; have hE0 := hE0.next hq; have r1 := r1.later hq r1.lt; have p1 := p1.later hq p1.lt; have hb0 := hb0.trans (hq.mono hb0.size))
    | (go_at_call 7; refine (hpa.out _ hE0).mono ?_; rintro e w5 ⟨rfl, hq⟩; have hE0 := hE0.next hq; have r1 := r1.later hq r1.lt; have p1 := p1.later hq p1.lt; have hb0 := hb0.trans (hq.mono hb0.size))
    | (have _t := stk; refine wpList_store_row rfl 26 (.tmp 7) (.tmp 20) rfl w5.heap.size X.toArray rfl rfl 26 _ (heap_alloc_new w5 _) hzX2.out hzX8.out hzX1.out ?_; refine Hid.out ?_))
  refine Lib.hid ?_
  generalize hw4 : World.setRow _ _ _ = w4
  obtain ⟨x1, hq⟩ := row_new_set (xs := X) hw4
  have hE0 := hE0.next hq
  have r1 := r1.later hq r1.lt
  have p1 := p1.later hq p1.lt
  have hb0 := hb0.trans (hq.mono hb0.size)
  clear hw4 hq
  generalize w5.heap.size = g7 at *
  have tk1 : True := trivial
  have tk2 : True := trivial
  have tk3 : True := trivial
  have tk4 : True := trivial
  go_wp2_with (first
    | ((with_reducible refine wpList_step fun K hK => ?_); refine step_load_mid (some 23) rfl (by rfl) 26 (.tmp 3) rfl w.heap.size 0 rfl Q _ (row_range r1) Tryd.underlying26 rfl hzQ.out ?_; refine hK _ _ ?_; clear hK)
    | (go_at_call 11; have _t := tk1; refine (hcka.out _).mono ?_; rintro e w6 ⟨rfl, hq⟩; have hE0 := hE0.next hq; have r1 := r1.later hq r1.lt; have p1 := p1.later hq p1.lt; have hb0 := hb0.trans (hq.mono hb0.size); have x1 := x1.later hq x1.lt; clear tk1)
    | (go_at_call 11; have _t := tk2; refine (hcka.out _).mono ?_; rintro e w8 ⟨rfl, hq⟩; have hE0 := hE0.next hq; have r1 := r1.later hq r1.lt; have p1 := p1.later hq p1.lt; have hb0 := hb0.trans (hq.mono hb0.size); have x1 := x1.later hq x1.lt; clear tk2)
    | ((with_reducible refine wpList_step fun K hK => ?_); refine step_load_mid (some 29) rfl (by rfl) 26 (.tmp 7) rfl g7 0 rfl X _ (row_range x1) Tryd.underlying26 rfl hzX.out ?_; refine hK _ _ ?_; clear hK)
    | ((with_reducible refine wpList_step fun K hK => ?_); refine step_load_mid (some 30) rfl (by rfl) 26 (.tmp 3) rfl w.heap.size 0 rfl Q _ (row_range r1) Tryd.underlying26 rfl hzQ.out ?_; refine hK _ _ ?_; clear hK)
    | ((with_reducible refine wpList_step fun K hK => ?_); refine step_load_mid (some 34) rfl (by rfl) 26 (.tmp 3) rfl w.heap.size 0 rfl Q _ (row_range r1) Tryd.underlying26 rfl hzQ.out ?_; refine hK _ _ ?_; clear hK)
    | ((with_reducible refine wpList_step fun K hK => ?_); refine step_load_mid (some 37) rfl (by rfl) 26 (.tmp 4) rfl (w.heap.size + 1) 0 rfl P _ (row_range p1) Tryd.underlying26 rfl hzP.out ?_; refine hK _ _ ?_; clear hK)
    | ((with_reducible refine wpList_step fun K hK => ?_); refine step_load_mid (some 41) rfl (by rfl) 26 (.tmp 3) rfl w.heap.size 0 rfl Q _ (row_range r1) Tryd.underlying26 rfl hzQ.out ?_; refine hK _ _ ?_; clear hK)
    | ((with_reducible refine wpList_step fun K hK => ?_); refine step_load_mid (some 42) rfl (by rfl) 26 (.tmp 4) rfl (w.heap.size + 1) 0 rfl P _ (row_range p1) Tryd.underlying26 rfl hzP.out ?_; refine hK _ _ ?_; clear hK)
    | ((with_reducible refine wpList_step fun K hK => ?_); refine step_load_mid (some 47) rfl (by rfl) 26 (.tmp 4) rfl (w.heap.size + 1) 0 rfl P _ (row_range p1) Tryd.underlying26 rfl hzP.out ?_; refine hK _ _ ?_; clear hK)
    | ((with_reducible refine wpList_step fun K hK => ?_); refine step_load_mid (some 48) rfl (by rfl) 26 (.tmp 3) rfl w.heap.size 0 rfl Q _ (row_range r1) Tryd.underlying26 rfl hzQ.out ?_; refine hK _ _ ?_; clear hK)
    | ((with_reducible refine wpList_step fun K hK => ?_); refine step_load_mid (some 53) rfl (by rfl) 26 (.tmp 3) rfl w.heap.size 0 rfl Q _ (row_range r1) Tryd.underlying26 rfl hzQ.out ?_; refine hK _ _ ?_; clear hK)
    | ((with_reducible refine wpList_step fun K hK => ?_); refine step_load_mid (some 55) rfl (by rfl) 24 (.tmp 54) rfl (w.heap.size + 1) 0 rfl VB _ (row_part' HP.out p1) Tryd.underlying24 rfl hzVB.out ?_; refine hK _ _ ?_; clear hK)
    | ((with_reducible refine wpList_step fun K hK => ?_); refine step_load_mid (some 58) rfl (by rfl) 26 (.tmp 4) rfl (w.heap.size + 1) 0 rfl P _ (row_range p1) Tryd.underlying26 rfl hzP.out ?_; refine hK _ _ ?_; clear hK)
    | ((with_reducible refine wpList_step fun K hK => ?_); refine step_load_mid (some 60) rfl (by rfl) 24 (.tmp 59) rfl w.heap.size 0 rfl VA _ (row_part' HQ.out r1) Tryd.underlying24 rfl hzVA.out ?_; refine hK _ _ ?_; clear hK)
    | (go_at_call 11; refine (hckb.out _).mono ?_; rintro e w7 ⟨rfl, hq⟩; have hE0 := hE0.next hq; have r1 := r1.later hq r1.lt; have p1 := p1.later hq p1.lt; have hb0 := hb0.trans (hq.mono hb0.size); have x1 := x1.later hq x1.lt)
    | (go_at_call 17; have _t := tk3; refine (hw1c.out _).mono ?_; rintro e w11 ⟨rfl, hq⟩; have hE0 := hE0.next hq; have r1 := r1.later hq r1.lt; have p1 := p1.later hq p1.lt; have hb0 := hb0.trans (hq.mono hb0.size); have x1 := x1.later hq x1.lt; clear tk3)
    | (go_at_call 17; refine (hw2c.out _).mono ?_; rintro e w12 ⟨rfl, hq⟩; have hE0 := hE0.next hq; have r1 := r1.later hq r1.lt; have p1 := p1.later hq p1.lt; have hb0 := hb0.trans (hq.mono hb0.size); have x1 := x1.later hq x1.lt)
    | (go_at_call 15; have _t := tk4; refine (hh1.out _).mono ?_; rintro e w13 ⟨rfl, hq⟩; have hE0 := hE0.next hq; have r1 := r1.later hq r1.lt; have p1 := p1.later hq p1.lt; have hb0 := hb0.trans (hq.mono hb0.size); have x1 := x1.later hq x1.lt; clear tk4)
    | (go_at_call 15; refine (hh2.out _).mono ?_; rintro e w14 ⟨rfl, hq⟩; have hE0 := hE0.next hq; have r1 := r1.later hq r1.lt; have p1 := p1.later hq p1.lt; have hb0 := hb0.trans (hq.mono hb0.size); have x1 := x1.later hq x1.lt)
    | (go_at_call 7; refine (hps.out _ hE0).mono ?_; rintro e w9 ⟨rfl, hq⟩; have hE0 := hE0.next hq; have r1 := r1.later hq r1.lt; have p1 := p1.later hq p1.lt; have hb0 := hb0.trans (hq.mono hb0.size); have x1 := x1.later hq x1.lt)
    | (have _t := stk; refine wpList_store_row rfl 26 (.tmp 9) (.tmp 67) rfl w9.heap.size Y.toArray rfl rfl 26 _ (heap_alloc_new w9 _) hzY2.out hzY8.out hzY1.out ?_; refine Hid.out ?_))
  refine Lib.hid ?_
  generalize hw4 : World.setRow _ _ _ = w4
  obtain ⟨y1, hq⟩ := row_new_set (xs := Y) hw4
  have hE0 := hE0.next hq
  have r1 := r1.later hq r1.lt
  have p1 := p1.later hq p1.lt
  have x1 := x1.later hq x1.lt
  have hb0 := hb0.trans (hq.mono hb0.size)
  clear hw4 hq
  generalize w9.heap.size = g9 at *
  go_wp2_with (first
    | ((with_reducible refine wpList_step fun K hK => ?_); refine step_load_mid (some 79) rfl (by rfl) 26 (.tmp 9) rfl g9 0 rfl Y _ (row_range y1) Tryd.underlying26 rfl hzY.out ?_; refine hK _ _ ?_; clear hK)
    | (go_at_call 13; refine (hty.out _ hE0).mono ?_; rintro e w10 ⟨rfl, hq⟩; have hE0 := hE0.next hq; have r1 := r1.later hq r1.lt; have p1 := p1.later hq p1.lt; have hb0 := hb0.trans (hq.mono hb0.size); have x1 := x1.later hq x1.lt; have y1 := y1.later hq y1.lt))
  go_ret
  exact ⟨rfl, hb0⟩
end Go.Proofs.YtflebnbpoboljaaDoor
