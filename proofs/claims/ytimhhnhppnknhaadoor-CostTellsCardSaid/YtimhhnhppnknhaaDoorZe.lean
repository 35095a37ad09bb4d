/- LAYER 15: package cost: readSize, read, Parse. -/
import Derived.Test.YtimhhnhppnknhaaDoorZd
import Derived.Lib.IndexMore
namespace Go.Proofs.YtimhhnhppnknhaaDoor
set_option maxRecDepth 100000
open Go Go.RowKit

/-! Ldexp, as readSize calls it. -/
theorem mldexp_zero (p : Int) (w : World) : Calls Tryd.prog 57 #[.float .f64 0, .int .i64 p] w fun e w' => e = .returned (.float .f64 0) ∧ w = w' := by
  have o : FloatKind.f64.format.order 0 0 = some .eq := by decide +kernel
  go_enter Tryd.func57, Tryd.ntmps57
  go_wp2
  go_ret
  exact ⟨rfl, rfl⟩
/-- The bits that Ldexp answers of a whole number and a power: the right ones, where there are any. -/
def LdRight (n : Nat) (p : Int) (x : Nat) : Prop := x < 2 ^ 64 ∧ (n = 0 → x = 0) ∧ ∀ a, FinC a → oddC (sigC a) = n → powC a + twosC (sigC a) = p → x = a
theorem mldexp_any (n : Nat) (p : Int) (hn : n < 2 ^ 53) (h1 : -4096 ≤ p) (h2 : p ≤ 4096) (w : World) : Calls Tryd.prog 45 #[.float .f64 (floatOfInt .f64 (n : Int)), .int .i64 p] w fun e w' => ∃ x, e = .returned (.float .f64 x) ∧ LdRight n p x ∧ w = w' := by
  have hin : ∃ x, LdRight n p x ∧ Calls Tryd.prog 57 #[.float .f64 (floatOfInt .f64 (n : Int)), .int .i64 p] w fun e w' => e = .returned (.float .f64 x) ∧ w = w' := by
    by_cases h0 : n = 0
    · subst h0
      refine ⟨0, ⟨by omega, fun _ => rfl, fun a hf ho _ => ?_⟩, ?_⟩
      · have := (odd_twos (sigC a) (by have := sig_pos a hf; omega)).1
        rw [ho] at this
        exact absurd this (by omega)
      · rw [show floatOfInt .f64 ((0 : Nat) : Int) = 0 from of_zero]
        exact mldexp_zero p w
    · obtain ⟨k, r, hk, hr, e⟩ := up_53 n (by omega) hn
      refine ⟨ldC k r p, ⟨ld_lt k r p hr, fun h => absurd h h0, fun a hf ho hp => ld_right n k r a p hk hr e hf ho hp⟩, ?_⟩
      rw [of_int n k r (by omega) hk hr e]
      exact mldexp_in k r p hk hr h1 h2 w
  obtain ⟨x, hx, hc⟩ := hin
  have hc := Lib.hid hc
  have hx := Lib.hid hx
  generalize floatOfInt .f64 (n : Int) = Y at *
  go_enter Tryd.func45, Tryd.ntmps45
  go_wp2_with (go_at_call 57; refine hc.out.mono ?_; rintro e w' ⟨rfl, rfl⟩)
  go_ret
  exact ⟨x, rfl, hx.out, rfl⟩
/-! A text cut at its first 'p'. -/
theorem index_at (t u : List UInt8) (h : (112 : UInt8) ∉ t) : Lib.index (t ++ 112 :: u) [112] = t.length := by
  induction t with
  | nil => rfl
  | cons c t ih =>
    have hc : c ≠ 112 := fun e => h (by rw [e]; exact List.mem_cons_self ..)
    have ih := ih (fun hm => h (List.mem_cons_of_mem _ hm))
    rw [List.cons_append, Lib.index, if_neg (by simp [List.isPrefixOf, Ne.symm hc]), ih, if_neg (by rw [beq_iff_eq]; omega), List.length_cons]
    omega
theorem cut_at (t u : List UInt8) (h : (112 : UInt8) ∉ t) : (Lib.cut (t ++ 112 :: u) [112]).1 = t ∧ (Lib.cut (t ++ 112 :: u) [112]).2.1 = u := by
  unfold Lib.cut
  rw [index_at t u h, if_pos (by omega)]
  constructor
  · show (t ++ 112 :: u).take ((t.length : Int)).toNat = t
    rw [Int.toNat_natCast, List.take_left]
  · show (t ++ 112 :: u).drop (((t.length : Int)).toNat + 1) = u
    rw [Int.toNat_natCast, List.drop_append]
    simp
theorem cut_short (s : List UInt8) : (Lib.cut s [112]).1.length ≤ s.length ∧ (Lib.cut s [112]).2.1.length ≤ s.length := by
  unfold Lib.cut
  split
  · simp; omega
  · simp
/-- What stands ahead of the 'p', and behind it, where the text is a number's. -/
theorem read_right (s : List UInt8) (a : Nat) (h : bodyP s = some a) (hi : s ≠ [105, 110, 102]) :
    (a = 0 ∧ (pmA 9007199254740991 (Lib.cut s [112]).1).1 = 0) ∨ (FinC a ∧ oddC (sigC a) = (pmA 9007199254740991 (Lib.cut s [112]).1).1 ∧ powC a + twosC (sigC a) = (piA (Lib.cut s [112]).2.1).1) := by
  unfold bodyP at h
  by_cases h0 : s = [48]
  · rw [if_pos h0] at h
    cases h
    exact .inl ⟨rfl, by rw [h0]; decide⟩
  · rw [if_neg h0, if_neg hi] at h
    obtain ⟨hf, e⟩ := (magP_iff s a).1 h
    obtain ⟨g1, -⟩ := fit_of a hf
    obtain ⟨o1, o2⟩ := odd_twos (sigC a) (by have := sig_pos a hf; omega)
    have hsl : sigC a < 2 ^ 53 := by rcases g1 with ⟨_, h, _⟩ | ⟨_, h, _, _⟩ <;> omega
    have hpow : -1074 ≤ powC a ∧ powC a ≤ 971 := by rcases g1 with ⟨_, _, h⟩ | ⟨_, _, h, h'⟩ <;> omega
    have ht := twos_le (sigC a) 53 (sig_pos a hf) hsl
    have hle : oddC (sigC a) ≤ oddC (sigC a) * 2 ^ twosC (sigC a) := Nat.le_mul_of_pos_right _ (Nat.pow_pos (by omega))
    rw [← o2] at hle
    obtain ⟨c1, c2⟩ := cut_at (numL 10 (oddC (sigC a))) (intL (powC a + twosC (sigC a))) (fun h => (num10_signs _ _ h).2.1 rfl)
    rw [← e] at c1 c2
    refine .inr ⟨hf, ?_, ?_⟩
    · rw [c1, pm_num _ _ (by omega)]
    · rw [c2, pi_int _ (by omega) (by omega)]
theorem cut_size (s : List UInt8) : (⟨s.toArray⟩ : ByteArray) = bstr s := rfl
set_option maxHeartbeats 4000000 in
theorem crsize_any (s : List UInt8) (hs : s.length ≤ 1000) (w : World) (hE : EnvD w) : Calls Tryd.prog 37 #[.string (bstr s)] w fun e w' => ∃ x, e = .returned (.float .f64 x) ∧ x < 2 ^ 64 ∧ (∀ a, bodyP s = some a → x = a) ∧ (s = [] → x = 0) ∧ Below w.heap.size w w' := by
  by_cases hi : s = [105, 110, 102]
  · subst hi
    have he : ((bstr [105, 110, 102]).toList == [105, 110, 102]) = true := by rw [bstr_toList]; rfl
    have hI := Lib.hid (finf_any w)
    generalize hS : bstr [105, 110, 102] = S at *
    clear hS
    go_enter Tryd.func37, Tryd.ntmps37
    go_wp2_with (go_at_call 18; refine hI.out.mono ?_; rintro e w' ⟨rfl, rfl⟩)
    go_ret
    exact ⟨_, rfl, by omega, fun a h => by rw [show bodyP [105, 110, 102] = some (2047 * 2 ^ 52) from rfl] at h; exact Option.some.inj h, (by simp), Below.refl _ _⟩
  · have he : ((bstr s).toList == [105, 110, 102]) = false := by rw [bstr_toList]; exact beq_eq_false_iff_ne.2 hi
    obtain ⟨m, hm⟩ := hE.most
    have hz := size_bstr s
    have hcut := fun w' (hm : w'.cell? ⟨3, 0, none⟩ = some (.int .i64 m)) => Tryd.strings_Cut (bstr s) (bstr [112]) m w' (by omega) hm
    obtain ⟨s1, s2⟩ := cut_short s
    have hR := Lib.hid (fun a h => read_right s a h hi)
    have hN := Lib.hid (show s = [] → (pmA 9007199254740991 (Lib.cut s [112]).1).1 = 0 by intro h; rw [h]; decide)
    have hcut : Calls Tryd.prog 42 #[.string (bstr s), .string ⟨#[112]⟩] w fun e w' => e = .returned (.tuple #[.string (bstr (Lib.cut s [112]).1), .string (bstr (Lib.cut s [112]).2.1), .bool (Lib.cut s [112]).2.2]) ∧ Below w.heap.size w w' := by
      refine (hcut w hm).mono ?_
      rintro e w' ⟨rfl, n, rfl⟩
      refine ⟨rfl, ?_⟩
      clear hR hN
      induction n with
      | zero => exact Below.refl _ _
      | succ n ih => exact ih.drew
    have hcut := Lib.hid hcut
    generalize (Lib.cut s [112]).1 = t at *
    generalize (Lib.cut s [112]).2.1 = u at *
    generalize (Lib.cut s [112]).2.2 = f at *
    have hn1 := (pmA_code 9007199254740991 t).1
    obtain ⟨p1, p2, -⟩ := piA_code u
    have hpu := Lib.hid (fun w' (h : EnvD w') => pu53_any t (by omega) w' h)
    have hpi := Lib.hid (fun w' (h : EnvD w') => pi12_any u (by omega) w' h)
    generalize (pmA 9007199254740991 t).1 = n at *
    generalize (piA u).1 = p at *
    have hld := Lib.hid (fun w' => mldexp_any n p (by omega) (by omega) (by omega) w')
    clear hs s1 s2 hn1 p1 p2 hm
    generalize bstr s = S at *
    go_enter Tryd.func37, Tryd.ntmps37
    go_wp2_with (first
      | (go_at_call 42; refine hcut.out.mono ?_; rintro e w1 ⟨rfl, hb1⟩; have hE1 := hE.next hb1)
      | (go_at_call 43; refine (hpu.out _ hE1).mono ?_; rintro e w2 ⟨v2, rfl, hb2⟩; have hb2 := hb1.trans (hb2.mono hb1.size); have hE2 := hE.next hb2)
      | (go_at_call 44; refine (hpi.out _ hE2).mono ?_; rintro e w3 ⟨v3, rfl, hb3⟩; have hb3 := hb2.trans (hb3.mono hb2.size))
      | (go_at_call 45; refine (hld.out _).mono ?_; rintro e w4 ⟨x, rfl, hx, rfl⟩))
    go_ret
    refine ⟨x, rfl, hx.1, fun a h => ?_, fun h => hx.2.1 (hN.out h), hb3⟩
    rcases hR.out a h with ⟨rfl, h1⟩ | ⟨h1, h2, h3⟩
    · exact hx.2.1 h1
    · exact hx.2.2 a h1 h2 h3
set_option maxHeartbeats 4000000 in
theorem cread_any (s : List UInt8) (hs : s.length ≤ 1000) (w : World) (hE : EnvD w) : Calls Tryd.prog 27 #[.string (bstr s)] w fun e w' => ∃ x, e = .returned (.float .f64 x) ∧ x < 2 ^ 64 ∧ (∀ c, parseC s = some c → x = c) ∧ (s = [] → x = 0) ∧ Below w.heap.size w w' := by
  have hcp := Tryd.strings_CutPrefix (bstr s) (bstr [45]) w
  by_cases hm : ∃ r, s = 45 :: r
  · obtain ⟨r, rfl⟩ := hm
    have hcp : Calls Tryd.prog 36 #[.string (bstr (45 :: r)), .string ⟨#[45]⟩] w fun e w' => e = .returned (.tuple #[.string (bstr r), .bool true]) ∧ w = w' := by
      refine hcp.mono ?_
      rintro e w' ⟨rfl, rfl⟩
      exact ⟨rfl, rfl⟩
    have hcp := Lib.hid hcp
    have hrs := Lib.hid (crsize_any r (by rw [List.length_cons] at hs; omega) w hE)
    have hco := Lib.hid (fun x hx w' => mcopy_any x hx w')
    have hP := Lib.hid (show parseC (45 :: r) = (bodyP r).map (2 ^ 63 + ·) from rfl)
    have hne : (45 :: r) ≠ [] := by simp
    generalize 45 :: r = s at *
    clear hs
    generalize bstr s = S at *
    go_enter Tryd.func27, Tryd.ntmps27
    go_wp2_with (first
      | (go_at_call 36; refine hcp.out.mono ?_; rintro e w' ⟨rfl, rfl⟩)
      | (go_at_call 37; refine hrs.out.mono ?_; rintro e w1 ⟨x, rfl, hx, hr, -, hb1⟩; have hr := Lib.hid hr)
      | (go_at_call 19; refine (hco.out x hx _).mono ?_; rintro e w' ⟨rfl, rfl⟩))
    go_ret
    refine ⟨_, rfl, by have := mag_lt x; omega, fun c h => ?_, fun h => absurd h hne, hb1⟩
    rw [hP.out] at h
    obtain ⟨a, ha, rfl⟩ := Option.map_eq_some_iff.1 h
    rw [hr.out a ha]
    have hle := ((bodyP_iff r a).1 ha).1
    show 2 ^ 63 + magC a = 2 ^ 63 + a
    unfold magC
    omega
  · have hh : Lib.hasPrefix s [45] = false ∧ parseC s = bodyP s := by
      cases s with
      | nil => exact ⟨rfl, rfl⟩
      | cons c r =>
        have hc : c ≠ 45 := fun e => hm ⟨r, by rw [e]⟩
        exact ⟨by unfold Lib.hasPrefix; simp [List.isPrefixOf, Ne.symm hc], parseC_other c r hc⟩
    have hcp : Calls Tryd.prog 36 #[.string (bstr s), .string ⟨#[45]⟩] w fun e w' => e = .returned (.tuple #[.string (bstr s), .bool false]) ∧ w = w' := by
      refine hcp.mono ?_
      rintro e w' ⟨rfl, rfl⟩
      have h1 : Lib.trimPrefix s [45] = s := by unfold Lib.trimPrefix; rw [hh.1]; rfl
      refine ⟨?_, rfl⟩
      show Ending.returned (.tuple #[.string (bstr (Lib.trimPrefix s [45])), .bool (Lib.hasPrefix s [45])]) = _
      rw [h1, hh.1]
    have hcp := Lib.hid hcp
    have hrs := Lib.hid (crsize_any s hs w hE)
    have hP := Lib.hid hh.2
    clear hh hm hs
    go_enter Tryd.func27, Tryd.ntmps27
    go_wp2_with (first
      | (go_at_call 36; refine hcp.out.mono ?_; rintro e w' ⟨rfl, rfl⟩)
      | (go_at_call 37; refine hrs.out.mono ?_; rintro e w1 ⟨x, rfl, hx, hr, h0, hb1⟩; have hr := Lib.hid hr; have h0 := Lib.hid h0))
    go_ret
    exact ⟨x, rfl, hx, fun c h => hr.out c (by rw [← hP.out]; exact h), h0.out, hb1⟩
set_option maxHeartbeats 4000000 in
theorem cparse_any (s : List UInt8) (hs : s.length ≤ 300) (w : World) (hE : EnvD w) : Calls Tryd.prog 10 #[.string (bstr s)] w fun e w' => e = .returned (.tuple #[.float .f64 ((parseC s).getD 0), .bool (parseC s).isSome]) ∧ Below w.heap.size w w' := by
  have hrd := Lib.hid (cread_any s (by omega) w hE)
  have htx := Lib.hid (fun x hx w' (h : EnvC w') => ctext_any x hx w' h)
  have heq := Lib.hid (fun x => bstr_beq (textC x) s)
  have hpi := Lib.hid (parseC_iff s)
  clear hs
  go_enter Tryd.func10, Tryd.ntmps10
  go_wp2_with (go_at_call 27; refine hrd.out.mono ?_; rintro e w1 ⟨x, rfl, hx, hr, h0, hb1⟩; have hr := Lib.hid hr; have h0 := Lib.hid h0; refine Hid.out ?_)
  have hE1 := (hE.next hb1).toEnvC
  have htx := Lib.hid (htx.out x hx w1 hE1)
  have heq := heq.out x
  by_cases ht : textC x = s
  · have hn : nanC x = false := by
      cases hn : nanC x with
      | false => rfl
      | true =>
        rw [text_nan x hn] at ht
        rw [h0.out ht.symm] at hn
        exact absurd hn (by decide)
    have hp := Lib.hid ((hpi.out x).2 ⟨hx, hn, ht⟩)
    rw [decide_eq_true ht] at heq
    clear ht hn
    generalize bstr (textC x) = X at *
    generalize bstr s = S at *
    refine Lib.hid ?_
    go_wp2_with (go_at_call 12; refine htx.out.mono ?_; rintro e w2 ⟨rfl, hb2⟩)
    go_ret2
    exact ⟨by rw [hp.out]; rfl, hb1.trans (hb2.mono hb1.size)⟩
  · have hp : parseC s = none := by
      cases hp : parseC s with
      | none => rfl
      | some c =>
        have e := hr.out c hp
        exact absurd (e ▸ ((hpi.out c).1 hp).2.2) ht
    have hp := Lib.hid hp
    rw [decide_eq_false ht] at heq
    clear ht
    generalize bstr (textC x) = X at *
    generalize bstr s = S at *
    refine Lib.hid ?_
    go_wp2_with (go_at_call 12; refine htx.out.mono ?_; rintro e w2 ⟨rfl, hb2⟩)
    go_ret2
    exact ⟨by rw [hp.out]; rfl, hb1.trans (hb2.mono hb1.size)⟩
end Go.Proofs.YtimhhnhppnknhaaDoor
