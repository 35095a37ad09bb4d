/- LAYER 1 DOCUMENT (chittyref01): the root by trying, walked. -/
import Derived.Test.YtcgnljjdoinepaaDoorT1
import Derived.Deep.AppendLies
namespace Go.Proofs.YtcgnljjdoinepaaDoor
open Go.RowKit
def mostL (p : Int) (q : Nat) : List Int := List.replicate (2 * q) 0 ++ [p]
/-- A square, or a cube, as digits. -/
def powL (t : Int) (q : Nat) : List Int := if q = 3 then timesL (timesL (digitsL t) (digitsL t)) (digitsL t) else timesL (digitsL t) (digitsL t)
def rootStep (p : Int) (q : Nat) (r : Int) (b : Nat) : Int :=
  if 137438953472 ≤ r + 2 ^ b then r
  else if aboveL (powL (r + 2 ^ b) q) (mostL p q) ((powL (r + 2 ^ b) q).length + (mostL p q).length + 1) then r else r + 2 ^ b
/-- What stands after the bits from 37 down to k. -/
def rootK (p : Int) (q : Nat) : Nat → Int
  | 0 => 0
  | j + 1 => rootStep p q (rootK p q j) (37 - j)
theorem length_timesL (a b : List Int) : (timesL a b).length = a.length + b.length := by unfold timesL; rw [len_carL, len_outL]
theorem above_at (A B : Option Addr) (na nb ca cb : Nat) (a b : List Int) (w : World) (ha : Rd w A (ints a)) (hb : Rd w B (ints b)) (hla : a.length ≤ 1000) (hlb : b.length ≤ 1000) (hna : na = a.length) (hnb : nb = b.length) :
    Calls Tryd.prog 37 #[.slice A na ca, .slice B nb cb] w fun e w' => e = .returned (.bool (aboveL a b (a.length + b.length + 1))) ∧ w = w' := by
  subst hna hnb
  exact above_any A B ca cb a b w ha hb hla hlb
theorem length_digitsL (x : Int) : (digitsL x).length = 3 := rfl
theorem pow37 (b : Nat) (h : b ≤ 37) : 0 < (2 : Int) ^ b ∧ (2 : Int) ^ b ≤ 137438953472 := by
  have h1 : (2 : Nat) ^ b ≤ 2 ^ 37 := Nat.pow_le_pow_right (by decide) h
  have h2 : 0 < (2 : Nat) ^ b := Nat.two_pow_pos b
  have e : ((2 ^ b : Nat) : Int) = (2 : Int) ^ b := Int.natCast_pow 2 b
  have e2 : (2 : Nat) ^ 37 = 137438953472 := by decide
  omega
theorem rootK_bd (p : Int) (q k : Nat) : 0 ≤ rootK p q k ∧ rootK p q k < 137438953472 := by
  induction k with
  | zero => rw [rootK]; omega
  | succ k ih =>
    have := pow37 (37 - k) (by omega)
    rw [rootK, rootStep]
    split
    · exact ih
    · split <;> omega
set_option maxHeartbeats 1000000 in
theorem root_any (p : Int) (q : Nat) (w : World) (hq : q = 2 ∨ q = 3) :
    Calls Tryd.prog 27 #[.int .i64 p, .int .i64 q] w fun e w' => e = .returned (.int .i64 (rootK p q 38)) ∧ Below w.heap.size w w' := by
  obtain ⟨i0, hi, hz0, hz1, hz2⟩ := info_parts infoInt
  have hq23 : 2 ≤ q ∧ q ≤ 3 := by omega
  clear hq
  have hm : i0.bytes * (2 * q) ≤ 281474976710656 := by rw [hz2]; omega
  have hm2 : 2 * q ≤ maxLen := by unfold maxLen; omega
  have hm3 : 2 * q + 1 ≤ maxLen := by unfold maxLen; omega
  go_enter Tryd.func27, Tryd.ntmps27
  go_wp2_with (first
    | (at_make; refine wpList_make_full _ rfl _ _ 61 rfl w.heap.size 3 i0 _ 1 Tryd.underlying61 hi hz0 hz1 _ _ _ _ (2 * q) rfl rfl (by go_num) (by go_num) hm hm2 (Nat.le_refl _) ?_; intro w1 hown1 hg1; have hsz1 : w.heap.size ≤ w1.heap.size := hg1.size)
    | (at_builtin; refine wpList_append_own _ rfl _ _ 61 rfl w.heap.size 3 i0 (.int .i64 0) 1 8 Tryd.underlying61 hi hz0 hz1 hz2 rfl (by decide) _ _ _ rfl (hown1.alloc _) ⟨w1.heap.size, 0, none⟩ 1 1 [.int .i64 p] rfl rfl ?c1 ?c2 ?c3 ?c4 ?c5 ?_))
  case c1 =>
    intro j u hj
    match j, hj with
    | 0, hj => simp at hj; subst hj; simp [Addr.add]
  case c2 => intro u hu; simp at hu; subst hu; rfl
  case c3 => exact hm3
  case c4 => omega
  case c5 => simp; omega
  intro v2 w2 hown2 hg2 _
  obtain ⟨g, cap, rfl, hgb, hgl⟩ := hown2.form (by omega)
  obtain ⟨ys, hrow2⟩ := Row.of_own hown2
  have hbel2 : Below w.heap.size w w2 := (((Below.refl _ _).grown hg1 (Nat.le_refl _) (fun _ h => by cases h)).alloc hsz1 _).grown hg2 (by simp; omega) (fun k h => by simp [Value.ownBlock] at h; omega)
  have e2 : ((madeCells #[Value.int IntKind.i64 0] (2 * q)).toList ++ [Value.int IntKind.i64 p]) = ints (mostL p q) := by
    rw [toList_madeCells_one]; unfold ints mostL; simp
  have hl2 : (mostL p q).length = 2 * q + 1 := by unfold mostL; simp
  have hrd : Rd w2 (some ⟨g, 0, none⟩) (ints (mostL p q)) := by
    have := hrow2
    erw [e2] at this
    exact Rd.row this
  clear hown1 hg1 hown2 hg2 hrow2 e2 hm hm2 hm3
  have HL2 := Lib.hid hl2
  clear hl2
  go_wp2
  go_loopw [6, 7] (fun r b wr => ∃ k : Nat, k ≤ 38 ∧ r = .int .i64 (rootK p q k) ∧ b = .int .i64 (37 - (k : Int)) ∧ Below w2.heap.size w2 wr) (fun _ b _ => (intOf b + 1).toNat)
  case atStart => exact ⟨0, by omega, rfl, by go_num, Below.refl _ _⟩
  case round =>
    obtain ⟨k, hk, rfl, rfl, hbel⟩ := hrel
    have hr := rootK_bd p q k
    by_cases hlt : k < 38
    · obtain ⟨b, hb⟩ : ∃ b, b = 37 - k := ⟨_, rfl⟩
      rw [show (37 - (k : Int)) = (b : Int) by omega]
      have hpw := pow37 b (by omega)
      have hstep : rootK p q (k + 1) = rootStep p q (rootK p q k) b := by rw [rootK, hb]
      have HS := Lib.hid hstep
      clear hstep
      generalize rootK p q k = r at *
      have hbk : (b : Int) = 37 - k := by omega
      have HB := Lib.hid hbk
      have hb37 : b ≤ 37 := by omega
      clear hb hbk
      by_cases ht : 137438953472 ≤ r + 2 ^ b
      · have hs : rootStep p q r b = r := by unfold rootStep; rw [if_pos ht]
        have HS' := Lib.hid (HS.out.trans hs)
        clear hs HS
        go_wp2
        go_roundw
        case rel => exact ⟨k + 1, by omega, by rw [HS'.out], by have := HB.out; go_num, hbel⟩
        case measure => simp [intOf]
      · have hs : rootStep p q r b = if aboveL (powL (r + 2 ^ b) q) (mostL p q) ((powL (r + 2 ^ b) q).length + (mostL p q).length + 1) then r else r + 2 ^ b := by unfold rootStep; rw [if_neg ht]
        have HS' := Lib.hid (HS.out.trans hs)
        clear hs HS
        by_cases hq3 : q = 3
        · have e3 : ((q : Int) == 3) = true := by rw [hq3]; rfl
          have HQ := Lib.hid hq3
          clear hq3
          go_wp2_with fail
          refine (digits_any _ _ (by omega) (by omega)).mono ?_
          rintro e w3 ⟨g3, cap3, ys3, rfl, hg3, hr3, hb3⟩
          have hbel3 : Below w2.heap.size w2 w3 := hbel.trans (hb3.mono hbel.size)
          go_wp2_with fail
          have hx3 := Rd.row hr3
          refine (times_any _ _ _ _ _ _ _ hx3 hx3 (by rw [length_digitsL]; omega) (by rw [length_digitsL]; omega)).mono ?_
          rintro e w4 ⟨g4, cap4, ys4, rfl, hg4, hr4, hb4⟩
          have hbel4 : Below w2.heap.size w2 w4 := hbel3.trans (hb4.mono hbel3.size)
          go_wp2_with fail
          have hx4 := Rd.row hr4
          refine (times_any _ _ _ _ _ _ _ hx4 (hx3.later (Nat.le_refl _) hb4) (by simp only [length_timesL, length_digitsL]; omega) (by rw [length_digitsL]; omega)).mono ?_
          rintro e w5 ⟨g5, cap5, ys5, rfl, hg5, hr5, hb5⟩
          have hbel5 : Below w2.heap.size w2 w5 := hbel4.trans (hb5.mono hbel4.size)
          have hx5 := Rd.row hr5
          go_wp2_with fail
          have HP : powL (r + 2 ^ b) q = timesL (timesL (digitsL (r + 2 ^ b)) (digitsL (r + 2 ^ b))) (digitsL (r + 2 ^ b)) := by unfold powL; rw [if_pos HQ.out]
          refine (above_at _ _ _ _ _ _ _ _ _ hx5 (hrd.later (Nat.le_refl _) hbel5) (by simp only [length_timesL, length_digitsL]; omega) (by rw [HL2.out]; omega) rfl HL2.out.symm).mono ?_
          rintro e w6 ⟨rfl, rfl⟩
          have HS := HS'.out
          rw [HP] at HS
          generalize aboveL _ _ _ = v at HS ⊢
          cases v
          · rw [if_neg (by decide)] at HS
            have HS := Lib.hid HS
            clear HS' HP
            go_wp2
            go_roundw
            case rel => exact ⟨k + 1, by omega, by rw [HS.out], by have := HB.out; go_num, hbel5⟩
            case measure => simp [intOf]
          · rw [if_pos rfl] at HS
            have HS := Lib.hid HS
            clear HS' HP
            go_wp2
            go_roundw
            case rel => exact ⟨k + 1, by omega, by rw [HS.out], by have := HB.out; go_num, hbel5⟩
            case measure => simp [intOf]
        · have e3 : ((q : Int) == 3) = false := by simp; omega
          have HQ := Lib.hid hq3
          clear hq3
          go_wp2_with fail
          refine (digits_any _ _ (by omega) (by omega)).mono ?_
          rintro e w3 ⟨g3, cap3, ys3, rfl, hg3, hr3, hb3⟩
          have hbel3 : Below w2.heap.size w2 w3 := hbel.trans (hb3.mono hbel.size)
          go_wp2_with fail
          have hx3 := Rd.row hr3
          refine (times_any _ _ _ _ _ _ _ hx3 hx3 (by rw [length_digitsL]; omega) (by rw [length_digitsL]; omega)).mono ?_
          rintro e w4 ⟨g4, cap4, ys4, rfl, hg4, hr4, hb4⟩
          have hbel4 : Below w2.heap.size w2 w4 := hbel3.trans (hb4.mono hbel3.size)
          go_wp2_with fail
          have hx4 := Rd.row hr4
          have HP : powL (r + 2 ^ b) q = timesL (digitsL (r + 2 ^ b)) (digitsL (r + 2 ^ b)) := by unfold powL; rw [if_neg HQ.out]
          refine (above_at _ _ _ _ _ _ _ _ _ hx4 (hrd.later (Nat.le_refl _) hbel4) (by simp only [length_timesL, length_digitsL]; omega) (by rw [HL2.out]; omega) rfl HL2.out.symm).mono ?_
          rintro e w5 ⟨rfl, rfl⟩
          have HS := HS'.out
          rw [HP] at HS
          generalize aboveL _ _ _ = v at HS ⊢
          cases v
          · rw [if_neg (by decide)] at HS
            have HS := Lib.hid HS
            clear HS' HP
            go_wp2
            go_roundw
            case rel => exact ⟨k + 1, by omega, by rw [HS.out], by have := HB.out; go_num, hbel4⟩
            case measure => simp [intOf]
          · rw [if_pos rfl] at HS
            have HS := Lib.hid HS
            clear HS' HP
            go_wp2
            go_roundw
            case rel => exact ⟨k + 1, by omega, by rw [HS.out], by have := HB.out; go_num, hbel4⟩
            case measure => simp [intOf]
    · obtain rfl : k = 38 := by omega
      go_wp2
      go_ret
      exact ⟨rfl, hbel2.trans (hbel.mono hbel2.size)⟩
end Go.Proofs.YtcgnljjdoinepaaDoor
