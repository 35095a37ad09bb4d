/- LAYER 15: the library's Frexp and Ldexp, as package cost calls them. -/
import Derived.Test.YtimhhnhppnknhaaDoorZm
namespace Go.Proofs.YtimhhnhppnknhaaDoor
set_option maxRecDepth 100000
open Go Go.RowKit

theorem fin_lt (a : Nat) (h : FinC a) : a < 2 ^ 63 := by have := h.2; omega
theorem fin_plain (a : Nat) (h : FinC a) : nanC a = false ∧ decide (magC a = 2047 * 2 ^ 52) = false := by
  obtain ⟨h1, h2⟩ := h
  have hm : magC a = a := by unfold magC; omega
  unfold nanC
  rw [hm]
  exact ⟨decide_eq_false (by omega), decide_eq_false (by omega)⟩
/-- What normalize makes of a number: its exponent's field and its fraction, and the power that it took out. -/
def NormC (a E r : Nat) (x : Int) : Prop := (x = 0 ∧ 1 ≤ E ∧ E ≤ 2046 ∧ r < 2 ^ 52 ∧ a = E * 2 ^ 52 + r) ∨ (∃ k, x = -52 ∧ k ≤ 52 ∧ E = 53 - k ∧ r < 2 ^ 52 ∧ a < 2 ^ 52 ∧ a * 2 ^ k = 2 ^ 52 + r)
theorem norm_of (a : Nat) (h : FinC a) : ∃ E r x, NormC a E r x := by
  obtain ⟨h1, h2⟩ := h
  by_cases hs : a < 2 ^ 52
  · obtain ⟨k, r, hk, hr, e⟩ := up_53 a h1 (by omega)
    exact ⟨53 - k, r, -52, .inr ⟨k, rfl, hk, rfl, hr, hs, e⟩⟩
  · obtain ⟨E, r, e1, e2, hr, e⟩ := pack_of a (by omega) h2
    exact ⟨E, r, 0, .inl ⟨rfl, e1, e2, hr, e⟩⟩
theorem norm_bd (a E r : Nat) (x : Int) (h : NormC a E r x) : 1 ≤ E ∧ E ≤ 2046 ∧ r < 2 ^ 52 ∧ (x = 0 ∨ x = -52) := by
  rcases h with ⟨rfl, h1, h2, h3, -⟩ | ⟨k, rfl, hk, rfl, hr, -, -⟩
  · exact ⟨h1, h2, h3, .inl rfl⟩
  · exact ⟨by omega, by omega, hr, .inr rfl⟩
/-- The odd number and the power that come of it. -/
theorem norm_parts (a E r : Nat) (x : Int) (ha : FinC a) (h : NormC a E r x) : oddC (2 ^ 52 + r) = oddC (sigC a) ∧ (E : Int) - 1022 + x - 53 + twosC (2 ^ 52 + r) = powC a + twosC (sigC a) := by
  rcases h with ⟨rfl, h1, h2, h3, rfl⟩ | ⟨k, rfl, hk, rfl, hr, hs, e⟩
  · rw [pack_sig E r h1 h3, pack_pow E r h1 h3]
    exact ⟨rfl, by omega⟩
  · have hsig : sigC a = a := by unfold sigC; rw [if_neg (by omega)]; omega
    have hpow : powC a = -1074 := by unfold powC; rw [if_neg (by omega)]
    obtain ⟨o1, o2⟩ := odd_shift a k (by have := ha.1; omega)
    rw [← e, o1, o2, hsig, hpow]
    exact ⟨rfl, by omega⟩
theorem mnorm_any (a E r : Nat) (x : Int) (ha : FinC a) (h : NormC a E r x) (w : World) : Calls Tryd.prog 40 #[.float .f64 a] w fun e w' => e = .returned (.tuple #[.float .f64 (E * 2 ^ 52 + r), .int .i64 x]) ∧ w = w' := by
  rcases h with ⟨rfl, h1, h2, h3, rfl⟩ | ⟨k, rfl, hk, rfl, hr, hs, e⟩
  · exact mnorm_great _ (by omega) (by omega) w
  · exact mnorm_small a k r hs hk hr e w
set_option maxHeartbeats 2000000 in
theorem mfrexp_in (a E r : Nat) (x : Int) (ha : FinC a) (h : NormC a E r x) (w : World) : Calls Tryd.prog 35 #[.float .f64 a] w fun e w' => e = .returned (.tuple #[.float .f64 (1022 * 2 ^ 52 + r), .int .i64 ((E : Int) - 1022 + x)]) ∧ w = w' := by
  obtain ⟨h1, h2, hr, hx⟩ := norm_bd a E r x h
  obtain ⟨p1, p2⟩ := fin_plain a ha
  have lt := fin_lt a ha
  have hinf := misinf_any a (by omega) w
  have hnan := misnan_any a (by omega) w
  rw [p2] at hinf
  rw [p1] at hnan
  have hn' := mnorm_any a E r x ha h w
  have hinf := Lib.hid hinf
  have hnan := Lib.hid hnan
  have o : FloatKind.f64.format.order a 0 = some .gt := order_gt a 0 (by have := ha.2; omega) (by omega) ha.1
  have e1 : ((E * 2 ^ 52 + r : Nat) : Int) / 4503599627370496 = (E : Int) := by omega
  have e2 := bits_exp E (by omega)
  have e3 : IntKind.i64.wrap (E : Int) = (E : Int) := by rw [IntKind.wrap_i64]; omega
  have e4 := bits_frac (E * 2 ^ 52 + r) (by omega)
  rw [pack_mod E r hr] at e4
  obtain ⟨Y, hY⟩ : ∃ Y, Y = E * 2 ^ 52 + r := ⟨_, rfl⟩
  rw [← hY] at hn' e1 e4
  have hn := Lib.hid hn'
  have e5 : bits .or .u64 (r : Int) 4602678819172646912 = ((1022 * 2 ^ 52 + r : Nat) : Int) := bits_lay r 1022 hr (by omega)
  obtain ⟨Z, hZ⟩ : ∃ Z, Z = 1022 * 2 ^ 52 + r := ⟨_, rfl⟩
  rw [← hZ] at e5 ⊢
  obtain ⟨D, hD⟩ : ∃ D : Int, D = (E : Int) - 1022 + x := ⟨_, rfl⟩
  rw [← hD]
  have ex : IntKind.i64.wrap ((E : Int) - 1023) = (E : Int) - 1023 := by rw [IntKind.wrap_i64]; omega
  have ey : IntKind.i64.wrap ((E : Int) - 1023 + 1) = (E : Int) - 1023 + 1 := by rw [IntKind.wrap_i64]; omega
  have ez : IntKind.i64.wrap (x + ((E : Int) - 1023 + 1)) = D := by rw [IntKind.wrap_i64]; omega
  clear h p1 p2 lt ha h1 h2 hr hx hD hY hZ hn'
  go_enter Tryd.func35, Tryd.ntmps35
  go_wp2_with (first
    | (go_at_call 22; refine hinf.out.mono ?_; rintro e w' ⟨rfl, rfl⟩)
    | (go_at_call 20; refine hnan.out.mono ?_; rintro e w' ⟨rfl, rfl⟩)
    | (go_at_call 40; refine hn.out.mono ?_; rintro e w' ⟨rfl, rfl⟩))
  go_ret2
  exact ⟨rfl, rfl⟩

theorem mfrexp_any (a E r : Nat) (x : Int) (ha : FinC a) (h : NormC a E r x) (w : World) : Calls Tryd.prog 23 #[.float .f64 a] w fun e w' => e = .returned (.tuple #[.float .f64 (1022 * 2 ^ 52 + r), .int .i64 ((E : Int) - 1022 + x)]) ∧ w = w' := by
  have hf := Lib.hid (mfrexp_in a E r x ha h w)
  clear h
  go_enter Tryd.func23, Tryd.ntmps23
  go_wp2_with (go_at_call 35; refine hf.out.mono ?_; rintro e w' ⟨rfl, rfl⟩)
  go_ret2
  exact ⟨rfl, rfl⟩
theorem bits_exp_i (E : Nat) (hE : E < 2048) : bits .and .i64 (E : Int) 2047 = (E : Int) := by
  show IntKind.i64.wrap ((BitVec.ofInt 64 (E : Int) &&& BitVec.ofInt 64 2047).toNat : Int) = _
  rw [BitVec.ofInt_natCast, BitVec.toNat_and, BitVec.toNat_ofNat, Nat.mod_eq_of_lt (by omega), show (BitVec.ofInt 64 2047).toNat = 2 ^ 11 - 1 by decide, Nat.and_two_pow_sub_one_eq_mod, Nat.mod_eq_of_lt (by omega), IntKind.wrap_i64]
  omega
set_option maxHeartbeats 2000000 in
theorem mldexp_in (k r : Nat) (p : Int) (hk : k ≤ 52) (hr : r < 2 ^ 52) (hp1 : -4096 ≤ p) (hp2 : p ≤ 4096) (w : World) : Calls Tryd.prog 57 #[.float .f64 ((1075 - k) * 2 ^ 52 + r), .int .i64 p] w fun e w' => e = .returned (.float .f64 (ldC k r p)) ∧ w = w' := by
  obtain ⟨E, hE⟩ : ∃ E, E = 1075 - k := ⟨_, rfl⟩
  rw [← hE]
  obtain ⟨F, hF⟩ : ∃ F, F = E * 2 ^ 52 + r := ⟨_, rfl⟩
  rw [← hF]
  have hfin : FinC F := hF ▸ pack_fin E r (by omega) (by omega) hr
  obtain ⟨p1, p2⟩ := fin_plain F hfin
  have lt := fin_lt F hfin
  have hinf := misinf_any F (by omega) w
  have hnan := misnan_any F (by omega) w
  rw [p2] at hinf
  rw [p1] at hnan
  have hn := Lib.hid (mnorm_great F (by omega) (by omega) w)
  have hinf := Lib.hid hinf
  have hnan := Lib.hid hnan
  have hcop := Lib.hid (mcopy0_any F (by omega) w)
  have hI := Lib.hid (finf_any w)
  have o : FloatKind.f64.format.order F 0 = some .gt := order_gt F 0 (by have := hfin.2; omega) (by omega) hfin.1
  have e1 : (F : Int) / 4503599627370496 = (E : Int) := by omega
  have e2 := bits_exp_i E (by omega)
  have e3 : IntKind.i64.wrap (E : Int) = (E : Int) := by rw [IntKind.wrap_i64]; omega
  have e4 := bits_frac F (by omega)
  rw [show F % 2 ^ 52 = r by omega] at e4
  obtain ⟨q, hq⟩ : ∃ q, q = p + 52 - (k : Int) := ⟨_, rfl⟩
  have ex : IntKind.i64.wrap ((E : Int) - 1023) = (E : Int) - 1023 := by rw [IntKind.wrap_i64]; omega
  have ey : IntKind.i64.wrap (p + ((E : Int) - 1023)) = q := by rw [IntKind.wrap_i64]; omega
  have ep : IntKind.i64.wrap p = p := by rw [IntKind.wrap_i64]; omega
  obtain ⟨V, hV⟩ : ∃ V, V = ldC k r p := ⟨_, rfl⟩
  rw [← hV]
  unfold ldC at hV
  rw [← hq] at hV
  have HV := Lib.hid hV
  have hqb : -5000 ≤ q ∧ q ≤ 5000 := by omega
  clear hV p1 p2 lt hfin
  by_cases c1 : q < -1075
  · have HW := Lib.hid (HV.out.trans (if_pos c1))
    clear HV hF hE hq hk hp1 hp2 hr hqb
    go_enter Tryd.func57, Tryd.ntmps57
    go_wp2_with (first
      | (go_at_call 22; refine hinf.out.mono ?_; rintro e w' ⟨rfl, rfl⟩)
      | (go_at_call 20; refine hnan.out.mono ?_; rintro e w' ⟨rfl, rfl⟩)
      | (go_at_call 19; refine hcop.out.mono ?_; rintro e w' ⟨rfl, rfl⟩)
      | (go_at_call 40; refine hn.out.mono ?_; rintro e w' ⟨rfl, rfl⟩))
    go_ret
    exact ⟨by rw [HW.out]; rfl, rfl⟩
  · have HW := Lib.hid (HV.out.trans (if_neg c1))
    clear HV
    have c1 : -1075 ≤ q := by omega
    by_cases c2 : 1023 < q
    · have HX := Lib.hid (HW.out.trans (if_pos c2))
      clear HW hF hE hq hk hp1 hp2 hr hqb
      go_enter Tryd.func57, Tryd.ntmps57
      go_wp2_with (first
        | (go_at_call 22; refine hinf.out.mono ?_; rintro e w' ⟨rfl, rfl⟩)
        | (go_at_call 20; refine hnan.out.mono ?_; rintro e w' ⟨rfl, rfl⟩)
        | (go_at_call 18; refine hI.out.mono ?_; rintro e w' ⟨rfl, rfl⟩)
        | (go_at_call 40; refine hn.out.mono ?_; rintro e w' ⟨rfl, rfl⟩))
      go_ret
      exact ⟨by rw [HX.out]; rfl, rfl⟩
    · have HX := Lib.hid (HW.out.trans (if_neg c2))
      clear HW
      have c2 : q ≤ 1023 := by omega
      by_cases c3 : q < -1022
      · have HY := Lib.hid (HX.out.trans (if_pos c3))
        obtain ⟨G, hG⟩ : ∃ G, G = (q + 1076).toNat := ⟨_, rfl⟩
        rw [← hG] at HY
        have f1 : IntKind.i64.wrap (q + 53) = q + 53 := by rw [IntKind.wrap_i64]; omega
        have f2 : IntKind.i64.wrap (q + 53 + 1023) = (G : Int) := by rw [IntKind.wrap_i64]; omega
        have f3 : IntKind.u64.wrap (G : Int) = (G : Int) := by rw [IntKind.wrap_u64]; omega
        have f4 : IntKind.u64.wrap ((G : Int) * 4503599627370496) = (((G * 2 ^ 52 : Nat)) : Int) := by rw [IntKind.wrap_u64]; omega
        have e5 := bits_lay r G hr (by omega)
        have hml : ∀ w', (binOp .mul 24 (.float .f64 4368491638549381120) (.float .f64 (G * 2 ^ 52 + r))).run Tryd.prog w' = .ok (.float .f64 (lowC G r)) w' := fun w' => run_float_arith w' .mul _ .f64 _ _ _ (mul_low G r (by omega) (by omega) hr)
        obtain ⟨X, hX⟩ : ∃ X, X = G * 2 ^ 52 := ⟨_, rfl⟩
        rw [← hX] at e5 f4
        obtain ⟨Y, hY⟩ : ∃ Y, Y = X + r := ⟨_, rfl⟩
        rw [← hX, ← hY] at hml
        rw [← hY] at e5
        clear HX hF hE hq hk hp1 hp2 hqb hr hG hX hY
        go_enter Tryd.func57, Tryd.ntmps57
        go_wp2_with (first
          | (go_at_call 22; refine hinf.out.mono ?_; rintro e w' ⟨rfl, rfl⟩)
          | (go_at_call 20; refine hnan.out.mono ?_; rintro e w' ⟨rfl, rfl⟩)
          | (go_at_call 40; refine hn.out.mono ?_; rintro e w' ⟨rfl, rfl⟩))
        go_ret
        exact ⟨by rw [HY.out]; rfl, rfl⟩
      · have HY := Lib.hid (HX.out.trans (if_neg c3))
        obtain ⟨G, hG⟩ : ∃ G, G = (q + 1023).toNat := ⟨_, rfl⟩
        have HY := HY.out
        rw [← hG] at HY
        have f2 : IntKind.i64.wrap (q + 1023) = (G : Int) := by rw [IntKind.wrap_i64]; omega
        have f3 : IntKind.u64.wrap (G : Int) = (G : Int) := by rw [IntKind.wrap_u64]; omega
        have f4 : IntKind.u64.wrap ((G : Int) * 4503599627370496) = (((G * 2 ^ 52 : Nat)) : Int) := by rw [IntKind.wrap_u64]; omega
        have e5 := bits_lay r G hr (by omega)
        have hml : ∀ w', (binOp .mul 24 (.float .f64 4607182418800017408) (.float .f64 (G * 2 ^ 52 + r))).run Tryd.prog w' = .ok (.float .f64 (G * 2 ^ 52 + r)) w' := fun w' => run_float_arith w' .mul _ .f64 _ _ _ (mul_one_pack G r (by omega) (by omega) hr)
        obtain ⟨X, hX⟩ : ∃ X, X = G * 2 ^ 52 := ⟨_, rfl⟩
        rw [← hX] at e5 f4
        obtain ⟨Y, hY⟩ : ∃ Y, Y = X + r := ⟨_, rfl⟩
        rw [← hX, ← hY] at hml HY
        rw [← hY] at e5
        have HY := Lib.hid HY
        have c3 : -1022 ≤ q := by omega
        clear HX hF hE hq hk hp1 hp2 hqb hr hG hX hY
        go_enter Tryd.func57, Tryd.ntmps57
        go_wp2_with (first
          | (go_at_call 22; refine hinf.out.mono ?_; rintro e w' ⟨rfl, rfl⟩)
          | (go_at_call 20; refine hnan.out.mono ?_; rintro e w' ⟨rfl, rfl⟩)
          | (go_at_call 40; refine hn.out.mono ?_; rintro e w' ⟨rfl, rfl⟩))
        go_ret
        exact ⟨by rw [HY.out]; rfl, rfl⟩
end Go.Proofs.YtimhhnhppnknhaaDoor
