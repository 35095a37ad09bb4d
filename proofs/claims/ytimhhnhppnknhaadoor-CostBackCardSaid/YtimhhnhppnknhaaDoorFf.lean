/- LAYER 15: the document's Of. -/
import Derived.Test.YtimhhnhppnknhaaDoorFe
namespace Go.Proofs.YtimhhnhppnknhaaDoor
set_option maxRecDepth 100000
open Go Go.RowKit

theorem ofC_off (m : Nat) (p : Int) (h : m % 2 = 0 ∨ 2 ^ 53 ≤ m ∨ p < -1074 ∨ 1023 < p) : ofC m p = none := by unfold ofC; rw [if_pos h]
theorem ofC_on (m : Nat) (p : Int) (h : ¬ (m % 2 = 0 ∨ 2 ^ 53 ≤ m ∨ p < -1074 ∨ 1023 < p)) : ofC m p = if 971 < (upC 52 m p).2 then none else some (bitsC (upC 52 m p).1 (upC 52 m p).2) := by unfold ofC; rw [if_neg h]
theorem up_stop (f M : Nat) (P : Int) (h : ¬ (M < 2 ^ 52 ∧ -1074 < P)) : upC f M P = (M, P) := by
  cases f with
  | zero => rfl
  | succ f => rw [upC, if_neg h]
theorem up_go (f M : Nat) (P : Int) (h : M < 2 ^ 52 ∧ -1074 < P) : upC (f + 1) M P = upC f (2 * M) (P - 1) := by rw [upC, if_pos h]
set_option maxHeartbeats 4000000 in
theorem fof_any (m : Nat) (p : Int) (hm : m < 2 ^ 64) (hp1 : -1000000 ≤ p) (hp2 : p ≤ 1000000) (w : World) : Calls Tryd.prog 29 #[.int .u64 m, .int .i64 p] w fun e w' => e = .returned (.tuple #[.float .f64 ((ofC m p).getD 0), .bool (ofC m p).isSome]) ∧ w = w' := by
  obtain ⟨V, hV⟩ : ∃ V, V = ofC m p := ⟨_, rfl⟩
  have HV := Lib.hid hV
  rw [← hV]
  clear hV
  by_cases h1 : m % 2 = 0
  · have a1 : ((m : Int)).tmod 2 = 0 := by rw [Int.tmod_eq_emod_of_nonneg (by omega)]; omega
    have HW := Lib.hid (HV.out.trans (ofC_off m p (.inl h1)))
    clear HV h1
    go_enter Tryd.func29, Tryd.ntmps29
    go_wp2
    go_ret2
    exact ⟨by rw [HW.out]; rfl, rfl⟩
  have a1 : ((m : Int)).tmod 2 = 1 := by rw [Int.tmod_eq_emod_of_nonneg (by omega)]; omega
  by_cases h2 : 2 ^ 53 ≤ m
  · have a2 : (9007199254740992 : Int) ≤ (m : Int) := by omega
    have HW := Lib.hid (HV.out.trans (ofC_off m p (.inr (.inl h2))))
    clear HV h1 h2
    go_enter Tryd.func29, Tryd.ntmps29
    go_wp2
    go_ret2
    exact ⟨by rw [HW.out]; rfl, rfl⟩
  have a2 : decide ((9007199254740992 : Int) ≤ (m : Int)) = false := decide_eq_false (by omega)
  by_cases h3 : p < -1074
  · have HW := Lib.hid (HV.out.trans (ofC_off m p (.inr (.inr (.inl h3)))))
    clear HV h1 h2
    go_enter Tryd.func29, Tryd.ntmps29
    go_wp2
    go_ret2
    exact ⟨by rw [HW.out]; rfl, rfl⟩
  have a3 : decide (p < -1074) = false := decide_eq_false h3
  by_cases h4 : 1023 < p
  · have HW := Lib.hid (HV.out.trans (ofC_off m p (.inr (.inr (.inr h4)))))
    clear HV h1 h2 h3
    go_enter Tryd.func29, Tryd.ntmps29
    go_wp2
    go_ret2
    exact ⟨by rw [HW.out]; rfl, rfl⟩
  have a4 : decide (1023 < p) = false := decide_eq_false h4
  have HW := Lib.hid (HV.out.trans (ofC_on m p (by omega)))
  have hm0 : 0 < m := by omega
  have hm1 : m < 2 ^ 53 := by omega
  have hq0 : -1074 ≤ p := by omega
  have hq1 : p ≤ 1023 := by omega
  clear HV h1 h2 h3 h4 hp1 hp2 hm
  go_enter Tryd.func29, Tryd.ntmps29
  go_wp2
  clear a1 a2 a3 a4
  go_loop [0, 1] (fun x y => ∃ (f M : Nat) (P : Int), x = .int .u64 M ∧ y = .int .i64 P ∧ 0 < M ∧ M < 2 ^ 53 ∧ -1074 ≤ P ∧ P ≤ 1023 ∧ upC f M P = upC 52 m p ∧ 2 ^ 52 ≤ M * 2 ^ f) (fun x _ => 2 ^ 53 - (intOf x).toNat)
  case atStart => exact ⟨52, m, p, rfl, rfl, hm0, hm1, hq0, hq1, rfl, Nat.le_mul_of_pos_left _ hm0⟩
  case round =>
    clear hm0 hm1 hq0 hq1
    obtain ⟨f, M, P, rfl, rfl, h1, h2, h3, h4, h5, h6⟩ := hrel
    by_cases hc : M < 2 ^ 52 ∧ -1074 < P
    · obtain ⟨g, rfl⟩ : ∃ g, f = g + 1 := by
        cases f with
        | zero => rw [Nat.pow_zero, Nat.mul_one] at h6; omega
        | succ g => exact ⟨g, rfl⟩
      have c1 : (M : Int) < 4503599627370496 := by omega
      have c2 : -1074 < P := hc.2
      obtain ⟨M2, hM2⟩ : ∃ M2, M2 = 2 * M := ⟨_, rfl⟩
      have HR := Lib.hid (show 0 < M2 ∧ M2 < 2 ^ 53 ∧ -1074 ≤ P - 1 ∧ P - 1 ≤ 1023 ∧ upC g M2 (P - 1) = upC 52 m p ∧ 2 ^ 52 ≤ M2 * 2 ^ g ∧ M < M2 from
        ⟨by omega, by omega, by omega, by omega, by rw [hM2, ← up_go g M P hc, h5], by
          have e : M * 2 ^ (g + 1) = 2 * M * 2 ^ g := by rw [Nat.pow_succ, ← Nat.mul_assoc, Nat.mul_comm, ← Nat.mul_assoc]
          rw [hM2, ← e]; exact h6, by omega⟩)
      have hw1 : IntKind.u64.wrap ((M : Int) * 2) = (M2 : Int) := by rw [IntKind.wrap_u64]; omega
      have hw2 : IntKind.i64.wrap (P - 1) = P - 1 := by rw [IntKind.wrap_i64]; omega
      have HM := Lib.hid hM2
      clear hc h5 h6 h4 hM2
      go_wp2
      go_round
      case rel =>
        obtain ⟨r1, r2, r3, r4, r5, r6, -⟩ := HR.out
        exact ⟨g, M2, P - 1, rfl, rfl, r1, r2, r3, r4, r5, r6⟩
      case measure =>
        obtain ⟨r1, r2, r3, r4, r5, r6, r7⟩ := HR.out
        simp [intOf]; omega
    · have HU := Lib.hid (show V = if 971 < P then none else some (bitsC M P) by rw [HW.out, ← h5, up_stop f M P hc])
      clear HW h5 h6
      by_cases hM : M < 2 ^ 52
      · have hP : P = -1074 := by omega
        subst hP
        have c1 : (M : Int) < 4503599627370496 := by omega
        have HX := Lib.hid (show V = some M by rw [HU.out, if_neg (by omega)]; unfold bitsC; rw [if_pos hM])
        clear HU hc hM
        go_wp2
        go_ret2
        exact ⟨by rw [HX.out]; rfl, rfl⟩
      · have c1 : decide ((M : Int) < 4503599627370496) = false := decide_eq_false (by omega)
        by_cases hP : 971 < P
        · have HX := Lib.hid (HU.out.trans (if_pos hP))
          clear HU hc hM
          go_wp2
          go_ret2
          exact ⟨by rw [HX.out]; rfl, rfl⟩
        · have c3 : P ≤ 971 := by omega
          obtain ⟨E, rfl⟩ : ∃ E : Nat, P = (E : Int) - 1075 := ⟨(P + 1075).toNat, by omega⟩
          have HX := Lib.hid (show V = some (E * 2 ^ 52 + M - 2 ^ 52) by rw [HU.out, if_neg hP]; unfold bitsC; rw [if_neg hM, show ((E : Int) - 1075 + 1075).toNat = E by omega])
          have hw0 : IntKind.i64.wrap (E : Int) = (E : Int) := by rw [IntKind.wrap_i64]; omega
          have hw1 : IntKind.i64.wrap ((E : Int) - 1075 + 1075) = (E : Int) := by rw [IntKind.wrap_i64]; omega
          have hw2 : IntKind.u64.wrap (E : Int) = (E : Int) := by rw [IntKind.wrap_u64]; omega
          obtain ⟨B, hB⟩ : ∃ B, B = E * 2 ^ 52 := ⟨_, rfl⟩
          have hw3 : IntKind.u64.wrap ((E : Int) * 4503599627370496) = (B : Int) := by rw [IntKind.wrap_u64]; omega
          rw [← hB] at HX
          have hw4 : IntKind.u64.wrap ((B : Int) + (M : Int)) = (B : Int) + (M : Int) := by rw [IntKind.wrap_u64]; omega
          obtain ⟨Z, hZ⟩ : ∃ Z, Z = B + M - 2 ^ 52 := ⟨_, rfl⟩
          have hw5 : IntKind.u64.wrap ((B : Int) + (M : Int) - 4503599627370496) = (Z : Int) := by rw [IntKind.wrap_u64]; omega
          rw [← hZ] at HX
          have c4 : decide (971 < (E : Int) - 1075) = false := decide_eq_false (by omega)
          clear HU hc hM hP hB hZ h2 h3 h4 c3
          go_wp2
          go_ret2
          exact ⟨by rw [HX.out]; rfl, rfl⟩
end Go.Proofs.YtimhhnhppnknhaaDoor
