/- LAYER 15: the document's Parts. -/
import Derived.Test.YtimhhnhppnknhaaDoorFa
namespace Go.Proofs.YtimhhnhppnknhaaDoor
set_option maxRecDepth 100000
open Go Go.RowKit

theorem parts_nan (b : Nat) (h : nanC b = true) : partsC b = (false, 0, 0) := by unfold partsC; rw [if_pos h]
theorem parts_edge (b : Nat) (h : nanC b = false) (he : magC b = 2047 * 2 ^ 52 ∨ magC b = 0) : partsC b = (negC b, 0, 0) := by
  unfold partsC; rw [if_neg (by rw [h]; simp), if_pos he]
theorem parts_fin (b : Nat) (h : nanC b = false) (he : ¬ (magC b = 2047 * 2 ^ 52 ∨ magC b = 0)) : partsC b = (negC b, oddC (sigC (magC b)), powC (magC b) + twosC (sigC (magC b))) := by
  unfold partsC; rw [if_neg (by rw [h]; simp), if_neg he]
/-- A number's bits, cut in three. -/
theorem cut_bits (b : Nat) : ∃ E m : Nat, E < 2048 ∧ m < 2 ^ 52 ∧ magC b = E * 2 ^ 52 + m ∧ b / 2 ^ 52 % 2048 = E ∧ b % 2 ^ 52 = m ∧ magC b / 2 ^ 52 = E ∧ magC b % 2 ^ 52 = m := by
  refine ⟨b / 2 ^ 52 % 2048, b % 2 ^ 52, by omega, by omega, ?_, rfl, rfl, ?_, ?_⟩
  · unfold magC; omega
  · unfold magC; omega
  · unfold magC; omega
theorem twos_le (M k : Nat) (h : 0 < M) (hk : M < 2 ^ k) : twosC M ≤ k := by
  obtain ⟨o1, o2⟩ := odd_twos M (by omega)
  by_cases hlt : twosC M ≤ k
  · exact hlt
  · exfalso
    have h1 : 2 ^ k ≤ 2 ^ twosC M := Nat.pow_le_pow_right (by omega) (by omega)
    have h2 : 2 ^ twosC M ≤ oddC M * 2 ^ twosC M := Nat.le_mul_of_pos_left _ (by omega)
    omega
set_option maxHeartbeats 4000000 in
theorem fparts_any (b : Nat) (hb : b < 2 ^ 64) (w : World) : Calls Tryd.prog 9 #[.float .f64 b] w fun e w' => e = .returned (.tuple #[.bool (partsC b).1, .int .u64 ((partsC b).2.1 : Int), .int .i64 (partsC b).2.2]) ∧ w = w' := by
  obtain ⟨E, m, hE, hm, hmag, e1, e2, e3, e4⟩ := cut_bits b
  have t1 : ((b : Int) / 4503599627370496).tmod 2048 = (E : Int) := by rw [Int.tmod_eq_emod_of_nonneg (by omega)]; omega
  have t2 : ((b : Int)).tmod 4503599627370496 = (m : Int) := by rw [Int.tmod_eq_emod_of_nonneg (by omega)]; omega
  have t3 : IntKind.i64.wrap (E : Int) = (E : Int) := by rw [IntKind.wrap_i64]; omega
  have hneg : ((b : Int) / 9223372036854775808 == 1) = negC b := by
    unfold negC
    rw [Bool.eq_iff_iff, beq_iff_eq, decide_eq_true_iff]; omega
  obtain ⟨V, hV⟩ : ∃ V, V = partsC b := ⟨_, rfl⟩
  rw [← hV]
  have HV := Lib.hid hV
  clear hV
  by_cases hE2 : E = 2047
  · subst hE2
    by_cases hm0 : m = 0
    · subst hm0
      have hn : nanC b = false := by unfold nanC; rw [decide_eq_false_iff_not, hmag]; omega
      have HW := Lib.hid (HV.out.trans (parts_edge b hn (.inl (by rw [hmag]))))
      clear HV hn hmag e1 e2 e3 e4
      generalize negC b = g at *
      go_enter Tryd.func9, Tryd.ntmps9
      go_wp2
      go_ret3
      exact ⟨by rw [HW.out]; rfl, rfl⟩
    · have hn : nanC b = true := by unfold nanC; rw [decide_eq_true_iff, hmag]; omega
      have HW := Lib.hid (HV.out.trans (parts_nan b hn))
      have hm1 : (0 : Int) < (m : Int) := by omega
      clear HV hn hmag e1 e2 e3 e4
      go_enter Tryd.func9, Tryd.ntmps9
      go_wp2
      go_ret3
      exact ⟨by rw [HW.out]; rfl, rfl⟩
  · have hn : nanC b = false := by unfold nanC; rw [decide_eq_false_iff_not, hmag]; omega
    have a1 : ((E : Int) == 2047) = false := by rw [beq_eq_false_iff_ne]; omega
    by_cases hE0 : E = 0
    · subst hE0
      by_cases hm0 : m = 0
      · subst hm0
        have HW := Lib.hid (HV.out.trans (parts_edge b hn (.inr (by rw [hmag]))))
        clear HV hn hmag e1 e2 e3 e4
        generalize negC b = g at *
        go_enter Tryd.func9, Tryd.ntmps9
        go_wp2
        go_ret3
        exact ⟨by rw [HW.out]; rfl, rfl⟩
      · have h0 := parts_fin b hn (by rw [hmag]; omega)
        have hs : sigC (magC b) = m := by unfold sigC; rw [e3, e4, if_neg (by omega)]
        have hp : powC (magC b) = -1074 := by unfold powC; rw [e3, if_neg (by omega)]
        rw [hs, hp] at h0
        have hm1 : ((m : Int) == 0) = false := by rw [beq_eq_false_iff_ne]; omega
        obtain ⟨M0, hM⟩ : ∃ M0, M0 = m := ⟨_, rfl⟩
        obtain ⟨P0, hP⟩ : ∃ P0 : Int, P0 = -1074 := ⟨_, rfl⟩
        rw [← hM, ← hP] at h0
        have hM0 : 0 < M0 := by omega
        have hM1 : M0 < 2 ^ 53 := by omega
        have hP0 : -1074 ≤ P0 := by omega
        have hP1 : P0 + twosC M0 ≤ 1100 := by have := twos_le M0 53 hM0 hM1; omega
        have HW := Lib.hid (HV.out.trans h0)
        have HM := Lib.hid hM
        have HP := Lib.hid hP
        clear HV hn hmag e1 e2 e3 e4 hs hp h0 hm0 hM hP
        generalize negC b = g at *
        go_enter Tryd.func9, Tryd.ntmps9
        go_wp2
        go_loop [8, 9] (fun x y => ∃ (M : Nat) (P : Int), 0 < M ∧ M < 2 ^ 53 ∧ -1074 ≤ P ∧ P + twosC M ≤ 1100 ∧ x = .int .u64 M ∧ y = .int .i64 P ∧ oddC M = oddC M0 ∧ P + twosC M = P0 + twosC M0) (fun x _ => (intOf x).toNat)
        case atStart => exact ⟨M0, P0, hM0, hM1, hP0, hP1, by rw [HM.out], by rw [HP.out], rfl, rfl⟩
        case round =>
          clear hM0 hM1 hP0 hP1
          obtain ⟨M, P, h1, h2, h3, h4, rfl, rfl, h5, h6⟩ := hrel
          by_cases hev : M % 2 = 0
          · have hmod : ((M : Int)).tmod 2 = 0 := by rw [Int.tmod_eq_emod_of_nonneg (by omega)]; omega
            have g1 := oddC_even M (by omega) hev
            have g2 := twosC_even M (by omega) hev
            obtain ⟨q, hq⟩ : ∃ q, q = M / 2 := ⟨_, rfl⟩
            rw [← hq] at g1 g2
            have hq1 : 0 < q := by omega
            have hq2 : q < M := by omega
            have hdiv : (M : Int) / 2 = (q : Int) := by omega
            have hw : IntKind.i64.wrap (P + 1) = P + 1 := by rw [IntKind.wrap_i64]; omega
            have hwq : IntKind.u64.wrap (q : Int) = (q : Int) := by rw [IntKind.wrap_u64]; omega
            have HR := Lib.hid (show 0 < q ∧ q < 2 ^ 53 ∧ -1074 ≤ P + 1 ∧ P + 1 + twosC q ≤ 1100 ∧ oddC q = oddC M0 ∧ P + 1 + twosC q = P0 + twosC M0 from ⟨hq1, by omega, by omega, by omega, by rw [← g1, h5], by omega⟩)
            have HQ := Lib.hid hq2
            clear hq g1 g2 h5 h6 hev h4 hq1 hq2
            go_wp2
            go_round
            case rel =>
              obtain ⟨r1, r2, r3, r4, r5, r6⟩ := HR.out
              exact ⟨q, P + 1, r1, r2, r3, r4, rfl, rfl, r5, r6⟩
            case measure =>
              have := HQ.out
              simp [intOf]; omega
          · have hmod : ((M : Int)).tmod 2 = 1 := by rw [Int.tmod_eq_emod_of_nonneg (by omega)]; omega
            have g1 := oddC_odd M (by omega)
            have g2 := twosC_odd M (by omega)
            have HX := Lib.hid (show V = (g, M, P) by rw [HW.out, ← h5, ← h6, g1, g2]; simp)
            clear g1 g2 h5 h6 hev h4
            go_wp2
            go_ret3
            exact ⟨by rw [HX.out]; rfl, rfl⟩
    · have h0 := parts_fin b hn (by rw [hmag]; omega)
      have hs : sigC (magC b) = m + 2 ^ 52 := by unfold sigC; rw [e3, e4, if_pos (by omega)]
      have hp : powC (magC b) = (E : Int) - 1075 := by unfold powC; rw [e3, if_pos (by omega)]
      rw [hs, hp] at h0
      have a2 : ((E : Int) == 0) = false := by rw [beq_eq_false_iff_ne]; omega
      have a3 : (0 : Int) < (E : Int) := by omega
      obtain ⟨M0, hM⟩ : ∃ M0, M0 = m + 2 ^ 52 := ⟨_, rfl⟩
      obtain ⟨P0, hP⟩ : ∃ P0 : Int, P0 = (E : Int) - 1075 := ⟨_, rfl⟩
      rw [← hM, ← hP] at h0
      have hM0 : 0 < M0 := by omega
      have hM1 : M0 < 2 ^ 53 := by omega
      have hP0 : -1074 ≤ P0 := by omega
      have hP1 : P0 + twosC M0 ≤ 1100 := by have := twos_le M0 53 hM0 hM1; omega
      have a4 : IntKind.u64.wrap ((m : Int) + 4503599627370496) = (M0 : Int) := by rw [IntKind.wrap_u64]; omega
      have a5 : IntKind.i64.wrap ((E : Int) - 1075) = P0 := by rw [IntKind.wrap_i64]; omega
      have HW := Lib.hid (HV.out.trans h0)
      clear HV hn hmag e1 e2 e3 e4 hs hp h0 hM hP
      generalize negC b = g at *
      go_enter Tryd.func9, Tryd.ntmps9
      go_wp2
      go_loop [8, 9] (fun x y => ∃ (M : Nat) (P : Int), 0 < M ∧ M < 2 ^ 53 ∧ -1074 ≤ P ∧ P + twosC M ≤ 1100 ∧ x = .int .u64 M ∧ y = .int .i64 P ∧ oddC M = oddC M0 ∧ P + twosC M = P0 + twosC M0) (fun x _ => (intOf x).toNat)
      case atStart => exact ⟨M0, P0, hM0, hM1, hP0, hP1, rfl, rfl, rfl, rfl⟩
      case round =>
        clear hM0 hM1 hP0 hP1
        obtain ⟨M, P, h1, h2, h3, h4, rfl, rfl, h5, h6⟩ := hrel
        by_cases hev : M % 2 = 0
        · have hmod : ((M : Int)).tmod 2 = 0 := by rw [Int.tmod_eq_emod_of_nonneg (by omega)]; omega
          have g1 := oddC_even M (by omega) hev
          have g2 := twosC_even M (by omega) hev
          obtain ⟨q, hq⟩ : ∃ q, q = M / 2 := ⟨_, rfl⟩
          rw [← hq] at g1 g2
          have hq1 : 0 < q := by omega
          have hq2 : q < M := by omega
          have hdiv : (M : Int) / 2 = (q : Int) := by omega
          have hw : IntKind.i64.wrap (P + 1) = P + 1 := by rw [IntKind.wrap_i64]; omega
          have hwq : IntKind.u64.wrap (q : Int) = (q : Int) := by rw [IntKind.wrap_u64]; omega
          have HR := Lib.hid (show 0 < q ∧ q < 2 ^ 53 ∧ -1074 ≤ P + 1 ∧ P + 1 + twosC q ≤ 1100 ∧ oddC q = oddC M0 ∧ P + 1 + twosC q = P0 + twosC M0 from ⟨hq1, by omega, by omega, by omega, by rw [← g1, h5], by omega⟩)
          have HQ := Lib.hid hq2
          clear hq g1 g2 h5 h6 hev h4 hq1 hq2
          go_wp2
          go_round
          case rel =>
            obtain ⟨r1, r2, r3, r4, r5, r6⟩ := HR.out
            exact ⟨q, P + 1, r1, r2, r3, r4, rfl, rfl, r5, r6⟩
          case measure =>
            have := HQ.out
            simp [intOf]; omega
        · have hmod : ((M : Int)).tmod 2 = 1 := by rw [Int.tmod_eq_emod_of_nonneg (by omega)]; omega
          have g1 := oddC_odd M (by omega)
          have g2 := twosC_odd M (by omega)
          have HX := Lib.hid (show V = (g, M, P) by rw [HW.out, ← h5, ← h6, g1, g2]; simp)
          clear g1 g2 h5 h6 hev h4
          go_wp2
          go_ret3
          exact ⟨by rw [HX.out]; rfl, rfl⟩
end Go.Proofs.YtimhhnhppnknhaaDoor
