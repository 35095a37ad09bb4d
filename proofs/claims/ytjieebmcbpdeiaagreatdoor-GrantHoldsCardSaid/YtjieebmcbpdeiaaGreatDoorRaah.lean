import Derived.Test.YtjieebmcbpdeiaaGreatDoorRaaf
import Derived.Test.YtjieebmcbpdeiaaGreatDoorRaaa
import Derived.Test.YtjieebmcbpdeiaaGreatDoorRaad
import Derived.Laws.Cover2
import Derived.Laws.FloatArith
import Derived.Laws.Externs
namespace Go.Proofs.YtjieebmcbpdeiaaGreatDoor
set_option maxRecDepth 100000
open Go Go.RowKit
theorem hexD_small16 (n : Nat) (h : n < 10) : ((hexD n).toNat : Int) = 48 + n := by
 unfold hexD
 rw [if_pos h, UInt8.toNat_ofNat']
 omega
set_option maxHeartbeats 2000000 in
theorem rdig16_any (k : Nat) : ∀ (n : Nat) (w : World), n ≤ k → n < 2 ^ 64 →
  Calls Tryz.prog 90 #[.int .u64 n] w fun e w' => e = .returned (.string (bstr (numL 10 n))) ∧ Below w.heap.size w w' := by
 induction k using Nat.strongRecOn with
 | _ k ih =>
  intro n w hk hm
  by_cases hlt : n < 10
  ·have hN := Lib.hid (numL_small 10 n hlt)
   have hlt' : (n : Int) < 10 := by omega
   have hd := hexD_small16 n hlt
   generalize hexD n = x at *
   have hw1 : IntKind.u64.wrap (48 + (n : Int)) = 48 + (n : Int) := by rw [IntKind.wrap_u64]; omega
   have hw2 : IntKind.u8.wrap (48 + (n : Int)) = (x.toNat : Int) := by rw [IntKind.wrap_u8]; omega
   have hsl := sl_lit w [x] #[.int .u8 (x.toNat : Int)] (0, 0) rfl 1 rfl
   have hcv := conv_bytes hsl 1 rfl
   have hb : Below w.heap.size w (w.alloc (.cells #[.int .u8 (x.toNat : Int)] 5 (0, 0))) := (Below.refl _ w).alloc (Nat.le_refl _) _
   clear hsl ih hd
   go_enter Tryz.func90, Tryz.ntmps90
   go_wp2_with fail
   go_ret
   exact ⟨by rw [hN.out]; rfl, hb⟩
  ·have hge : (10 : Int) ≤ (n : Int) := by omega
   have hN := Lib.hid (numL_great 10 n (by omega) (by omega))
   have hq := Lib.hid (show ∀ w', Calls Tryz.prog 90 #[.int .u64 ((n : Int) / 10)] w' fun e w'' => e = .returned (.string (bstr (numL 10 (n / 10)))) ∧ Below w'.heap.size w' w'' from fun w' => ih (n / 10) (by omega) (n / 10) w' (Nat.le_refl _) (by omega))
   have hr := Lib.hid (show ∀ w', Calls Tryz.prog 90 #[.int .u64 ((n : Int) % 10)] w' fun e w'' => e = .returned (.string (bstr [hexD (n % 10)])) ∧ Below w'.heap.size w' w'' from by
    rw [← numL_small 10 (n % 10) (by omega)]; exact fun w' => ih (n % 10) (by omega) (n % 10) w' (Nat.le_refl _) (by omega))
   have hY := numL_len 10 (by omega) 62 (n / 10) (by omega)
   generalize hXn : numL 10 n = X at *
   generalize numL 10 (n / 10) = Y at *
   have hZ : [hexD (n % 10)].length = 1 := rfl
   generalize [hexD (n % 10)] = Z at *
   have hzY := size_bstr Y
   have hzZ := size_bstr Z
   have hw1 : IntKind.u64.wrap ((n : Int) / 10) = (n : Int) / 10 := by rw [IntKind.wrap_u64]; omega
   have hw2 : ((n : Int)).tmod 10 = (n : Int) % 10 := Int.tmod_eq_emod_of_nonneg (by omega)
   have tok : True := trivial
   clear ih hXn
   go_enter Tryz.func90, Tryz.ntmps90
   go_wp2_with (first
    | (go_at_call 90; have _t := tok; refine (hq.out _).mono ?_; rintro e w1 ⟨rfl, hb1⟩; clear tok)
    | (go_at_call 90; refine (hr.out _).mono ?_; rintro e w2 ⟨rfl, hb2⟩))
   go_ret
   exact ⟨by rw [hN.out, ← bstr_cat12]; rfl, hb1.trans (hb2.mono hb1.size)⟩
def rankC (b : Nat) : Int := if negC b then -(magC b : Int) else (magC b : Int)
theorem cmp_congr {x y u v : Int} (h1 : x < y ↔ u < v) (h2 : x = y ↔ u = v) : compare x y = compare u v := by
 show compareOfLessAndEq x y = compareOfLessAndEq u v
 unfold compareOfLessAndEq
 by_cases a : x < y
 ·rw [if_pos a, if_pos (h1.1 a)]
 ·rw [if_neg a, if_neg (fun h => a (h1.2 h))]
  by_cases b : x = y
  ·rw [if_pos b, if_pos (h2.1 b)]
  ·rw [if_neg b, if_neg (fun h => b (h2.2 h))]
theorem cmp_lt {x y : Int} (h : x < y) : compare x y = .lt := by
 show compareOfLessAndEq x y = .lt
 unfold compareOfLessAndEq
 rw [if_pos h]
theorem cmp_gt {x y : Int} (h : y < x) : compare x y = .gt := by
 show compareOfLessAndEq x y = .gt
 unfold compareOfLessAndEq
 rw [if_neg (by omega), if_neg (by omega)]
theorem sig_mono (a b : Nat) (base : Int) (ha : base ≤ powC a) (hb : base ≤ powC b) (h : a < b) : sigC a * 2 ^ (powC a - base).toNat < sigC b * 2 ^ (powC b - base).toNat := by
 have hP : powC a ≤ powC b := by unfold powC; split <;> split <;> omega
 obtain ⟨k, hk⟩ : ∃ k, k = (powC b - powC a).toNat := ⟨_, rfl⟩
 have e : (powC b - base).toNat = (powC a - base).toNat + k := by omega
 rw [e, Nat.pow_add, ← Nat.mul_assoc, Nat.mul_right_comm]
 refine Nat.mul_lt_mul_of_pos_right ?_ (Nat.pow_pos (by omega))
 by_cases h0 : k = 0
 ·subst h0
  rw [Nat.pow_zero, Nat.mul_one]
  have hE : powC a = powC b := by omega
  unfold powC at hE
  unfold sigC
  split at hE <;> split at hE <;> (try split) <;> (try split) <;> omega
 ·have h2 : 2 ≤ 2 ^ k := by
   have : 2 ^ 1 ≤ 2 ^ k := Nat.pow_le_pow_right (by omega) (by omega)
   omega
  have hb52 : 2 ^ 52 ≤ sigC b := by
   unfold sigC
   split
   ·omega
   ·exfalso
    unfold powC at hk hP
    split at hk <;> split at hP <;> omega
  have ha53 : sigC a < 2 ^ 53 := by unfold sigC; split <;> omega
  have : 2 ^ 52 * 2 ≤ sigC b * 2 ^ k := Nat.mul_le_mul hb52 h2
  omega
theorem sig_mono_iff (a b : Nat) (base : Int) (ha : base ≤ powC a) (hb : base ≤ powC b) : (sigC a * 2 ^ (powC a - base).toNat < sigC b * 2 ^ (powC b - base).toNat ↔ a < b) ∧ (sigC a * 2 ^ (powC a - base).toNat = sigC b * 2 ^ (powC b - base).toNat ↔ a = b) := by
 rcases Nat.lt_trichotomy a b with h | h | h
 ·have := sig_mono a b base ha hb h
  exact ⟨⟨fun _ => h, fun _ => this⟩, ⟨fun e => by omega, fun e => by omega⟩⟩
 ·subst h
  exact ⟨⟨fun e => by omega, fun e => by omega⟩, ⟨fun _ => rfl, fun _ => rfl⟩⟩
 ·have := sig_mono b a base hb ha h
  exact ⟨⟨fun e => by omega, fun e => by omega⟩, ⟨fun e => by omega, fun e => by omega⟩⟩
theorem read_fin (b : Nat) (hb : b < 2 ^ 64) (h : magC b < 2047 * 2 ^ 52) : Ieee.double.read b = .number (negC b) (sigC (magC b)) (powC (magC b)) := by
 have hs : Ieee.double.signWeight = 2 ^ 63 := rfl
 have hbi : Ieee.double.binade = 2 ^ 52 := rfl
 have hin : Ieee.double.infRung = 2047 * 2 ^ 52 := rfl
 have hl : Ieee.double.leastPlace = -1074 := rfl
 have hn : (b / 2 ^ 63 % 2 == 1) = negC b := by
  unfold negC
  rw [show b / 2 ^ 63 % 2 = b / 2 ^ 63 by omega]
  exact (Bool.eq_iff_iff).2 (by rw [beq_iff_eq, decide_eq_true_iff])
 unfold Ieee.Format.read
 simp only [hs, hbi, hin, hl, hn]
 show (if magC b < 2 ^ 52 then _ else if magC b < 2047 * 2 ^ 52 then _ else _) = _
 unfold sigC powC
 by_cases h52 : magC b < 2 ^ 52
 ·rw [if_pos h52, if_neg (by omega), if_neg (by omega)]
  congr 1
  show magC b = _
  omega
 ·rw [if_neg h52, if_pos h, if_pos (by omega), if_pos (by omega)]
  show Ieee.Datum.number _ (2 ^ 52 + magC b % 2 ^ 52) (-1074 + ((magC b / 2 ^ 52 - 1 : Nat) : Int)) = _
  congr 1 <;> omega
theorem read_inf (b : Nat) (hb : b < 2 ^ 64) (h : magC b = 2047 * 2 ^ 52) : Ieee.double.read b = .infinity (negC b) := by
 have hs : Ieee.double.signWeight = 2 ^ 63 := rfl
 have hbi : Ieee.double.binade = 2 ^ 52 := rfl
 have hin : Ieee.double.infRung = 2047 * 2 ^ 52 := rfl
 have hn : (b / 2 ^ 63 % 2 == 1) = negC b := by
  unfold negC
  rw [show b / 2 ^ 63 % 2 = b / 2 ^ 63 by omega]
  exact (Bool.eq_iff_iff).2 (by rw [beq_iff_eq, decide_eq_true_iff])
 unfold Ieee.Format.read
 simp only [hs, hbi, hin, hn]
 show (if magC b < 2 ^ 52 then _ else if magC b < 2047 * 2 ^ 52 then _ else if magC b = 2047 * 2 ^ 52 then _ else _) = _
 rw [if_neg (by omega), if_neg (by omega), if_pos h]
theorem read_nan (b : Nat) (h : nanC b = true) : ∃ s f, Ieee.double.read b = .nan s f := by
 have h := of_decide_eq_true (show decide (2047 * 2 ^ 52 < magC b) = true from h)
 have hs : Ieee.double.signWeight = 2 ^ 63 := rfl
 have hbi : Ieee.double.binade = 2 ^ 52 := rfl
 have hin : Ieee.double.infRung = 2047 * 2 ^ 52 := rfl
 unfold Ieee.Format.read
 simp only [hs, hbi, hin]
 refine ⟨b / 2 ^ 63 % 2 == 1, magC b - 2047 * 2 ^ 52, ?_⟩
 show (if magC b < 2 ^ 52 then _ else if magC b < 2047 * 2 ^ 52 then _ else if magC b = 2047 * 2 ^ 52 then _ else _) = _
 rw [if_neg (by omega), if_neg (by omega), if_neg (by omega)]; rfl
theorem shl (m k : Nat) : m <<< k = m * 2 ^ k := Nat.shiftLeft_eq m k
theorem sig_zero (a : Nat) : sigC a = 0 ↔ a = 0 := by
 unfold sigC; split <;> omega
theorem order_rank (a b : Nat) (ha : a < 2 ^ 64) (hb : b < 2 ^ 64) : Ieee.double.order a b = if nanC a = true ∨ nanC b = true then none else some (compare (rankC a) (rankC b)) := by
 unfold Ieee.Format.order
 by_cases na : nanC a = true
 ·obtain ⟨s, f, e⟩ := read_nan a na
  rw [e, if_pos (.inl na)]
  cases Ieee.double.read b <;> rfl
 ·by_cases nb : nanC b = true
  ·obtain ⟨s, f, e⟩ := read_nan b nb
   rw [e, if_pos (.inr nb)]
   cases Ieee.double.read a <;> rfl
  ·rw [if_neg (by rintro (h | h); exact na h; exact nb h)]
   have la : magC a ≤ 2047 * 2 ^ 52 := by
    have : ¬ 2047 * 2 ^ 52 < magC a := fun h => na (decide_eq_true h)
    omega
   have lb : magC b ≤ 2047 * 2 ^ 52 := by
    have : ¬ 2047 * 2 ^ 52 < magC b := fun h => nb (decide_eq_true h)
    omega
   by_cases ia : magC a = 2047 * 2 ^ 52
   ·rw [read_inf a ha ia]
    by_cases ib : magC b = 2047 * 2 ^ 52
    ·rw [read_inf b hb ib]
     unfold rankC
     rw [ia, ib]
     cases negC a <;> cases negC b <;> rfl
    ·rw [read_fin b hb (by omega)]
     unfold rankC
     show some (if negC a = true then Ordering.lt else Ordering.gt) = _
     congr 1
     cases negC a <;> cases negC b <;> simp only [Bool.false_eq_true, if_true, if_false]
     all_goals first
      | exact (cmp_gt (by omega)).symm
      | exact (cmp_lt (by omega)).symm
   ·rw [read_fin a ha (by omega)]
    by_cases ib : magC b = 2047 * 2 ^ 52
    ·rw [read_inf b hb ib]
     unfold rankC
     show some (if negC b = true then Ordering.gt else Ordering.lt) = _
     congr 1
     cases negC a <;> cases negC b <;> simp only [Bool.false_eq_true, if_true, if_false]
     all_goals first
      | exact (cmp_gt (by omega)).symm
      | exact (cmp_lt (by omega)).symm
    ·rw [read_fin b hb (by omega)]
     obtain ⟨m1, m2⟩ := sig_mono_iff (magC a) (magC b) (min (powC (magC a)) (powC (magC b))) (by omega) (by omega)
     have z1 : sigC (magC a) * 2 ^ (powC (magC a) - min (powC (magC a)) (powC (magC b))).toNat = 0 ↔ magC a = 0 := by
      rw [Nat.mul_eq_zero, sig_zero]
      exact ⟨fun h => h.elim id fun h => absurd h (Nat.ne_of_gt (Nat.pow_pos (by omega))), .inl⟩
     have z2 : sigC (magC b) * 2 ^ (powC (magC b) - min (powC (magC a)) (powC (magC b))).toNat = 0 ↔ magC b = 0 := by
      rw [Nat.mul_eq_zero, sig_zero]
      exact ⟨fun h => h.elim id fun h => absurd h (Nat.ne_of_gt (Nat.pow_pos (by omega))), .inl⟩
     show some (compare (Ieee.signed (negC a) (sigC (magC a)) _) (Ieee.signed (negC b) (sigC (magC b)) _)) = _
     congr 1
     unfold Ieee.signed rankC
     simp only [shl]
     generalize sigC (magC a) * 2 ^ (powC (magC a) - min (powC (magC a)) (powC (magC b))).toNat = A at *
     generalize sigC (magC b) * 2 ^ (powC (magC b) - min (powC (magC a)) (powC (magC b))).toNat = B at *
     generalize magC a = x at *
     generalize magC b = y at *
     cases negC a <;> cases negC b <;> simp only [Bool.false_eq_true, if_true, if_false]
     all_goals refine cmp_congr ?_ ?_
     all_goals constructor <;> intro h <;> omega
theorem log2_pow (M k : Nat) (h : 0 < M) : (M * 2 ^ k).log2 = M.log2 + k := by
 have h1 := Nat.log2_self_le (n := M) (by omega)
 have h2 : M < 2 ^ (M.log2 + 1) := (Nat.log2_lt (by omega)).1 (Nat.lt_succ_self _)
 have hp : 0 < 2 ^ k := Nat.pow_pos (by omega)
 have h3 : 2 ^ (M.log2 + k) ≤ M * 2 ^ k := by rw [Nat.pow_add]; exact Nat.mul_le_mul_right _ h1
 have h4 : M * 2 ^ k < 2 ^ (M.log2 + k + 1) := by
  rw [show M.log2 + k + 1 = (M.log2 + 1) + k by omega, Nat.pow_add]
  exact Nat.mul_lt_mul_of_pos_right h2 hp
 have h0 : M * 2 ^ k ≠ 0 := Nat.ne_of_gt (Nat.mul_pos h hp)
 have a : (M * 2 ^ k).log2 < M.log2 + k + 1 := (Nat.log2_lt h0).2 h4
 have b : ¬ (M * 2 ^ k).log2 < M.log2 + k := fun h5 => by have := (Nat.log2_lt h0).1 h5; omega
 omega
theorem cut_exact (neg : Bool) (M d : Nat) (h : 0 < M) : Ieee.Toward.even.cut neg (M * 2 ^ d) d = M := by
 unfold Ieee.Toward.cut
 have e : min d ((M * 2 ^ d).log2 + 2) = d := by rw [log2_pow M d h]; omega
 have hp : 0 < 2 ^ d := Nat.pow_pos (by omega)
 simp only [e, Nat.one_shiftLeft, Nat.mul_div_cancel _ hp, Nat.mul_mod_left, Nat.mul_zero]
 rw [decide_eq_false (by omega), show ((2 ^ d : Nat) == 0) = false from by rw [beq_eq_false_iff_ne]; omega]
 rfl
theorem rung_min (E M Q : Nat) (hE : E ≤ 2045) (h1 : Q ≤ M) (h2 : M < 2 * Q) : min (E * Q + M) (2047 * Q) = (E + 1) * Q + M - Q := by
 have h : E * Q ≤ 2045 * Q := Nat.mul_le_mul_right _ hE
 rw [Nat.add_mul, Nat.one_mul]
 generalize E * Q = X at *
 omega
theorem nearest_fit (neg : Bool) (mag : Nat) (place : Int) (M : Nat) (P : Int) (h : FitC M P)
  (hv : (place ≤ P ∧ mag = M * 2 ^ (P - place).toNat) ∨ (P < place ∧ M = mag * 2 ^ (place - P).toNat)) :
  Ieee.double.nearest neg mag place = Ieee.double.word neg (bitsC M P) := by
 have hM : 0 < M := by rcases h with ⟨h, _, _⟩ | ⟨h, _, _, _⟩ <;> omega
 have hm : 0 < mag := by
  rcases hv with ⟨_, rfl⟩ | ⟨_, e⟩
  ·exact Nat.mul_pos hM (Nat.pow_pos (by omega))
  ·rcases Nat.eq_zero_or_pos mag with h0 | h0
   ·rw [h0, Nat.zero_mul] at e; omega
   ·exact h0
 have hl : place + (mag.log2 : Int) = P + (M.log2 : Int) := by
  rcases hv with ⟨h1, rfl⟩ | ⟨h1, rfl⟩
  ·rw [log2_pow M _ hM]; omega
  ·rw [log2_pow mag _ hm]; omega
 have hlast : max (P + (M.log2 : Int) - 52) (-1074) = P := by
  rcases h with ⟨h1, h2, rfl⟩ | ⟨h1, h2, h3, h4⟩
  ·have : M.log2 < 52 := (Nat.log2_lt (by omega)).2 h2
   omega
  ·have a : M.log2 < 53 := (Nat.log2_lt (by omega)).2 h2
   have b : ¬ M.log2 < 52 := fun h5 => by have := (Nat.log2_lt (by omega)).1 h5; omega
   omega
 unfold Ieee.Format.nearest
 rw [if_neg (by omega)]
 have hf : ((Ieee.double.fractionBits : Nat) : Int) = 52 := rfl
 have hlp : Ieee.double.leastPlace = -1074 := rfl
 have hbi : Ieee.double.binade = 2 ^ 52 := rfl
 have hin : Ieee.double.infRung = 2047 * 2 ^ 52 := rfl
 simp only [hf, hlp, hbi, hin, hl, hlast, shl]
 have hk : Ieee.Toward.even.cut neg (mag * 2 ^ (place - P).toNat) (P - place).toNat = M := by
  rcases hv with ⟨h1, rfl⟩ | ⟨h1, rfl⟩
  ·rw [show (place - P).toNat = 0 by omega, Nat.pow_zero, Nat.mul_one]
   exact cut_exact neg M _ hM
  ·have := cut_exact neg (mag * 2 ^ (place - P).toNat) 0 hM
   rw [Nat.pow_zero, Nat.mul_one] at this
   rw [show (P - place).toNat = 0 by omega]; exact this
 rw [hk]
 congr 1
 unfold bitsC
 rcases h with ⟨h1, h2, rfl⟩ | ⟨h1, h2, h3, h4⟩
 ·rw [if_pos h2, show ((-1074 : Int) - -1074).toNat = 0 by decide, Nat.zero_mul, Nat.zero_add]
  exact Nat.min_eq_left (by omega)
 ·rw [if_neg (by omega)]
  generalize hE : (P - -1074).toNat = E
  rw [show (P + 1075).toNat = E + 1 by omega]
  have hE2 : E ≤ 2045 := by omega
  exact rung_min E M (2 ^ 52) hE2 h1 (by omega)
theorem read_one : Ieee.double.read 4607182418800017408 = .number false (2 ^ 52) (-52) := by decide +kernel
theorem read_minus : Ieee.double.read 13830554455654793216 = .number true (2 ^ 52) (-52) := by decide +kernel
theorem mul_unit (s : Bool) (x b : Nat) (hx : Ieee.double.read x = .number s (2 ^ 52) (-52)) (hb : b < 2 ^ 64) (hf : FinC (magC b)) : Ieee.double.mul x b = some (Ieee.double.word (s ^^ negC b) (magC b)) := by
 unfold Ieee.Format.mul
 rw [hx, read_fin b hb hf.2]
 obtain ⟨g1, g2⟩ := fit_of (magC b) hf
 show some (Ieee.double.nearest (s ^^ negC b) (2 ^ 52 * sigC (magC b)) (-52 + powC (magC b))) = _
 congr 1
 rw [nearest_fit (s ^^ negC b) _ _ (sigC (magC b)) (powC (magC b)) g1 (.inl ⟨by omega, by rw [show (powC (magC b) - (-52 + powC (magC b))).toNat = 52 by omega, Nat.mul_comm]⟩), g2]
@[go_sem] theorem run_f64bits (b : Nat) (w : World) : (callFunc 78 #[.float .f64 b]).run Tryz.prog w = .ok (.value (.int .u64 b)) w := by
 rw [run_callFunc_extern (fn := Tryz.f78) (e := Extern.MathFloatBits.float64bits) Tryz.func78 (by kernel_rfl) (by kernel_rfl) (by kernel_rfl) (by kernel_rfl)]; rfl
@[go_sem] theorem run_f64from (n : Int) (w : World) : (callFunc 23 #[.int .u64 n]).run Tryz.prog w = .ok (.value (.float .f64 n.toNat)) w := by
 rw [run_callFunc_extern (fn := Tryz.f23) (e := Extern.MathFloatBits.float64frombits) Tryz.func23 (by kernel_rfl) (by kernel_rfl) (by kernel_rfl) (by kernel_rfl)]; rfl
theorem fsame_any (a b : Nat) (w : World) : Calls Tryz.prog 48 #[.float .f64 a, .float .f64 b] w fun e w' => e = .returned (.bool (decide (a = b))) ∧ w = w' := by
 go_enter Tryz.func48, Tryz.ntmps48
 go_wp2
 go_ret
 refine ⟨?_, rfl⟩
 show Ending.returned (.bool ((a : Int) == (b : Int))) = _
 congr 2
 rw [Bool.eq_iff_iff, beq_iff_eq, decide_eq_true_iff]
 omega
theorem fnan_any (w : World) : Calls Tryz.prog 22 #[] w fun e w' => e = .returned (.float .f64 9221120237041090561) ∧ w = w' := by
 go_enter Tryz.func22, Tryz.ntmps22
 go_wp2
 go_ret
 exact ⟨rfl, rfl⟩
theorem finf_any (w : World) : Calls Tryz.prog 96 #[.int .i64 1] w fun e w' => e = .returned (.float .f64 9218868437227405312) ∧ w = w' := by
 go_enter Tryz.func96, Tryz.ntmps96
 go_wp2
 go_ret
 exact ⟨rfl, rfl⟩
theorem fminf_any (w : World) : Calls Tryz.prog 96 #[.int .i64 (-1)] w fun e w' => e = .returned (.float .f64 18442240474082181120) ∧ w = w' := by
 go_enter Tryz.func96, Tryz.ntmps96
 go_wp2
 go_ret
 exact ⟨rfl, rfl⟩
theorem fmzero_any (w : World) : Calls Tryz.prog 95 #[.float .f64 0, .float .f64 13830554455654793216] w fun e w' => e = .returned (.float .f64 9223372036854775808) ∧ w = w' := by
 go_enter Tryz.func95, Tryz.ntmps95
 go_wp2
 go_ret
 exact ⟨rfl, rfl⟩
theorem frank_any (b : Nat) (hb : b < 2 ^ 64) (w : World) : Calls Tryz.prog 71 #[.float .f64 b] w fun e w' => e = .returned (.int .i64 (rankC b)) ∧ w = w' := by
 have hm : magC b = b % 9223372036854775808 := rfl
 have HR := Lib.hid (show rankC b = if negC b then -(magC b : Int) else (magC b : Int) from rfl)
 have ht : ((b : Int)).tmod 9223372036854775808 = (magC b : Int) := by rw [Int.tmod_eq_emod_of_nonneg (by omega)]; omega
 have hw : IntKind.i64.wrap (magC b : Int) = (magC b : Int) := by rw [IntKind.wrap_i64]; omega
 have hw2 : IntKind.i64.wrap (-(magC b : Int)) = -(magC b : Int) := by rw [IntKind.wrap_i64]; omega
 cases hn : negC b with
 | true =>
  have h1 : ((b : Int) / 9223372036854775808 == 1) = true := by
   have : b / 2 ^ 63 = 1 := of_decide_eq_true hn
   rw [beq_iff_eq]; omega
  have HS := Lib.hid (show rankC b = -(magC b : Int) by rw [HR.out, hn]; rfl)
  clear HR hn hm
  generalize magC b = m at *
  go_enter Tryz.func71, Tryz.ntmps71
  go_wp2
  go_ret
  exact ⟨by rw [HS.out]; rfl, rfl⟩
 | false =>
  have h1 : ((b : Int) / 9223372036854775808 == 1) = false := by
   have : ¬ b / 2 ^ 63 = 1 := of_decide_eq_false hn
   rw [beq_eq_false_iff_ne]; omega
  have HS := Lib.hid (show rankC b = (magC b : Int) by rw [HR.out, hn]; rfl)
  clear HR hn hm
  generalize magC b = m at *
  go_enter Tryz.func71, Tryz.ntmps71
  go_wp2
  go_ret
  exact ⟨by rw [HS.out]; rfl, rfl⟩
def atMostC (a b : Nat) : Bool := !nanC a && !nanC b && decide (rankC a ≤ rankC b)
theorem order_of (a b : Nat) (ha : a < 2 ^ 64) (hb : b < 2 ^ 64) : FloatKind.f64.format.order a b = if nanC a = true ∨ nanC b = true then none else some (compare (rankC a) (rankC b)) := order_rank a b ha hb
theorem compare_self (x : Int) : compare x x = .eq := by
 show compareOfLessAndEq x x = .eq
 unfold compareOfLessAndEq
 rw [if_neg (by omega), if_pos rfl]
theorem order_nan (a : Nat) (ha : a < 2 ^ 64) (h : nanC a = true) : FloatKind.f64.format.order a a = none := by rw [order_of a a ha ha, if_pos (.inl h)]
theorem order_eq (a : Nat) (ha : a < 2 ^ 64) (h : nanC a = false) : FloatKind.f64.format.order a a = some .eq := by
 rw [order_of a a ha ha, if_neg (by rw [h]; simp), compare_self]
theorem fatmost_any (a b : Nat) (ha : a < 2 ^ 64) (hb : b < 2 ^ 64) (w : World) : Calls Tryz.prog 37 #[.float .f64 a, .float .f64 b] w fun e w' => e = .returned (.bool (atMostC a b)) ∧ w = w' := by
 have HV := Lib.hid (show atMostC a b = (!nanC a && !nanC b && decide (rankC a ≤ rankC b)) from rfl)
 have hra := Lib.hid (frank_any a ha w)
 have hrb := Lib.hid (frank_any b hb w)
 have tok : True := trivial
 generalize atMostC a b = V at *
 cases hna : nanC a with
 | true =>
  have HW := Lib.hid (show V = false by rw [HV.out, hna]; rfl)
  have h1 := order_nan a ha hna
  clear HV hna
  go_enter Tryz.func37, Tryz.ntmps37
  go_wp2
  go_ret
  exact ⟨by rw [HW.out]; rfl, rfl⟩
 | false =>
  have h1 := order_eq a ha hna
  cases hnb : nanC b with
  | true =>
   have HW := Lib.hid (show V = false by rw [HV.out, hnb, Bool.not_true, Bool.and_false]; rfl)
   have h2 := order_nan b hb hnb
   clear HV hna hnb
   go_enter Tryz.func37, Tryz.ntmps37
   go_wp2
   go_ret
   exact ⟨by rw [HW.out]; rfl, rfl⟩
  | false =>
   have HW := Lib.hid (show V = decide (rankC a ≤ rankC b) by rw [HV.out, hna, hnb]; rfl)
   have h2 := order_eq b hb hnb
   clear HV hna hnb
   generalize rankC a = x at *
   generalize rankC b = y at *
   go_enter Tryz.func37, Tryz.ntmps37
   go_wp2_with (first
    | (go_at_call 71; have _t := tok; refine hra.out.mono ?_; rintro e w' ⟨rfl, rfl⟩; clear tok)
    | (go_at_call 71; refine hrb.out.mono ?_; rintro e w' ⟨rfl, rfl⟩))
   go_ret
   exact ⟨by rw [HW.out]; rfl, rfl⟩
theorem parts_nan (b : Nat) (h : nanC b = true) : partsC b = (false, 0, 0) := by unfold partsC; rw [if_pos h]
theorem parts_edge (b : Nat) (h : nanC b = false) (he : magC b = 2047 * 2 ^ 52 ∨ magC b = 0) : partsC b = (negC b, 0, 0) := by
 unfold partsC; rw [if_neg (by rw [h]; simp), if_pos he]
theorem parts_fin (b : Nat) (h : nanC b = false) (he : ¬ (magC b = 2047 * 2 ^ 52 ∨ magC b = 0)) : partsC b = (negC b, oddC (sigC (magC b)), powC (magC b) + twosC (sigC (magC b))) := by
 unfold partsC; rw [if_neg (by rw [h]; simp), if_neg he]
theorem cut_bits (b : Nat) : ∃ E m : Nat, E < 2048 ∧ m < 2 ^ 52 ∧ magC b = E * 2 ^ 52 + m ∧ b / 2 ^ 52 % 2048 = E ∧ b % 2 ^ 52 = m ∧ magC b / 2 ^ 52 = E ∧ magC b % 2 ^ 52 = m := by
 refine ⟨b / 2 ^ 52 % 2048, b % 2 ^ 52, by omega, by omega, ?_, rfl, rfl, ?_, ?_⟩
 ·unfold magC; omega
 ·unfold magC; omega
 ·unfold magC; omega
theorem twos_le (M k : Nat) (h : 0 < M) (hk : M < 2 ^ k) : twosC M ≤ k := by
 obtain ⟨o1, o2⟩ := odd_twos M (by omega)
 by_cases hlt : twosC M ≤ k
 ·exact hlt
 ·exfalso
  have h1 : 2 ^ k ≤ 2 ^ twosC M := Nat.pow_le_pow_right (by omega) (by omega)
  have h2 : 2 ^ twosC M ≤ oddC M * 2 ^ twosC M := Nat.le_mul_of_pos_left _ (by omega)
  omega
set_option maxHeartbeats 4000000 in
theorem fparts_any (b : Nat) (hb : b < 2 ^ 64) (w : World) : Calls Tryz.prog 126 #[.float .f64 b] w fun e w' => e = .returned (.tuple #[.bool (partsC b).1, .int .u64 ((partsC b).2.1 : Int), .int .i64 (partsC b).2.2]) ∧ w = w' := by
 obtain ⟨E, m, hE, hm, hmag, e1, e2, e3, e4⟩ := cut_bits b
 have t1 : ((b : Int) / 4503599627370496).tmod 2048 = (E : Int) := by rw [Int.tmod_eq_emod_of_nonneg (by omega)]; omega
 have t2 : ((b : Int)).tmod 4503599627370496 = (m : Int) := by rw [Int.tmod_eq_emod_of_nonneg (by omega)]; omega
 have t3 : IntKind.i64.wrap (E : Int) = (E : Int) := by rw [IntKind.wrap_i64]; omega
 have hneg : ((b : Int) / 9223372036854775808 == 1) = negC b := by
  unfold negC
  rw [Bool.eq_iff_iff, beq_iff_eq, decide_eq_true_iff]; omega
 obtain ⟨V, hV⟩ : ∃ V, V = partsC b := ⟨_, rfl⟩
 rw [← hV]
 have HV := Lib.hid hV
 clear hV
 by_cases hE2 : E = 2047
 ·subst hE2
  by_cases hm0 : m = 0
  ·subst hm0
   have hn : nanC b = false := by unfold nanC; rw [decide_eq_false_iff_not, hmag]; omega
   have HW := Lib.hid (HV.out.trans (parts_edge b hn (.inl (by rw [hmag]))))
   clear HV hn hmag e1 e2 e3 e4
   generalize negC b = g at *
   go_enter Tryz.func126, Tryz.ntmps126
   go_wp2
   go_ret3
   exact ⟨by rw [HW.out]; rfl, rfl⟩
  ·have hn : nanC b = true := by unfold nanC; rw [decide_eq_true_iff, hmag]; omega
   have HW := Lib.hid (HV.out.trans (parts_nan b hn))
   have hm1 : (0 : Int) < (m : Int) := by omega
   clear HV hn hmag e1 e2 e3 e4
   go_enter Tryz.func126, Tryz.ntmps126
   go_wp2
   go_ret3
   exact ⟨by rw [HW.out]; rfl, rfl⟩
 ·have hn : nanC b = false := by unfold nanC; rw [decide_eq_false_iff_not, hmag]; omega
  have a1 : ((E : Int) == 2047) = false := by rw [beq_eq_false_iff_ne]; omega
  by_cases hE0 : E = 0
  ·subst hE0
   by_cases hm0 : m = 0
   ·subst hm0
    have HW := Lib.hid (HV.out.trans (parts_edge b hn (.inr (by rw [hmag]))))
    clear HV hn hmag e1 e2 e3 e4
    generalize negC b = g at *
    go_enter Tryz.func126, Tryz.ntmps126
    go_wp2
    go_ret3
    exact ⟨by rw [HW.out]; rfl, rfl⟩
   ·have h0 := parts_fin b hn (by rw [hmag]; omega)
    have hs : sigC (magC b) = m := by unfold sigC; rw [e3, e4, if_neg (by omega)]
    have hp : powC (magC b) = -1074 := by unfold powC; rw [e3, if_neg (by omega)]
    rw [hs, hp] at h0
    have hm1 : ((m : Int) == 0) = false := by rw [beq_eq_false_iff_ne]; omega
    obtain ⟨M0, hM⟩ : ∃ M0, M0 = m := ⟨_, rfl⟩
    obtain ⟨P0, hP⟩ : ∃ P0 : Int, P0 = -1074 := ⟨_, rfl⟩
    rw [← hM, ← hP] at h0
    have hM0 : 0 < M0 := by omega
    have hM1 : M0 < 2 ^ 53 := by omega
    have hP0 : -1074 ≤ P0 := by omega
    have hP1 : P0 + twosC M0 ≤ 1100 := by have := twos_le M0 53 hM0 hM1; omega
    have HW := Lib.hid (HV.out.trans h0)
    have HM := Lib.hid hM
    have HP := Lib.hid hP
    clear HV hn hmag e1 e2 e3 e4 hs hp h0 hm0 hM hP
    generalize negC b = g at *
    go_enter Tryz.func126, Tryz.ntmps126
    go_wp2
    go_loop [8, 9] (fun x y => ∃ (M : Nat) (P : Int), 0 < M ∧ M < 2 ^ 53 ∧ -1074 ≤ P ∧ P + twosC M ≤ 1100 ∧ x = .int .u64 M ∧ y = .int .i64 P ∧ oddC M = oddC M0 ∧ P + twosC M = P0 + twosC M0) (fun x _ => (intOf x).toNat)
    case atStart => exact ⟨M0, P0, hM0, hM1, hP0, hP1, by rw [HM.out], by rw [HP.out], rfl, rfl⟩
    case round =>
     clear hM0 hM1 hP0 hP1
     obtain ⟨M, P, h1, h2, h3, h4, rfl, rfl, h5, h6⟩ := hrel
     by_cases hev : M % 2 = 0
     ·have hmod : ((M : Int)).tmod 2 = 0 := by rw [Int.tmod_eq_emod_of_nonneg (by omega)]; omega
      have g1 := oddC_even M (by omega) hev
      have g2 := twosC_even M (by omega) hev
      obtain ⟨q, hq⟩ : ∃ q, q = M / 2 := ⟨_, rfl⟩
      rw [← hq] at g1 g2
      have hq1 : 0 < q := by omega
      have hq2 : q < M := by omega
      have hdiv : (M : Int) / 2 = (q : Int) := by omega
      have hw : IntKind.i64.wrap (P + 1) = P + 1 := by rw [IntKind.wrap_i64]; omega
      have hwq : IntKind.u64.wrap (q : Int) = (q : Int) := by rw [IntKind.wrap_u64]; omega
      have HR := Lib.hid (show 0 < q ∧ q < 2 ^ 53 ∧ -1074 ≤ P + 1 ∧ P + 1 + twosC q ≤ 1100 ∧ oddC q = oddC M0 ∧ P + 1 + twosC q = P0 + twosC M0 from ⟨hq1, by omega, by omega, by omega, by rw [← g1, h5], by omega⟩)
      have HQ := Lib.hid hq2
      clear hq g1 g2 h5 h6 hev h4 hq1 hq2
      go_wp2
      go_round
      case rel =>
       obtain ⟨r1, r2, r3, r4, r5, r6⟩ := HR.out
       exact ⟨q, P + 1, r1, r2, r3, r4, rfl, rfl, r5, r6⟩
      case measure =>
       have := HQ.out
       simp [intOf]; omega
     ·have hmod : ((M : Int)).tmod 2 = 1 := by rw [Int.tmod_eq_emod_of_nonneg (by omega)]; omega
      have g1 := oddC_odd M (by omega)
      have g2 := twosC_odd M (by omega)
      have HX := Lib.hid (show V = (g, M, P) by rw [HW.out, ← h5, ← h6, g1, g2]; simp)
      clear g1 g2 h5 h6 hev h4
      go_wp2
      go_ret3
      exact ⟨by rw [HX.out]; rfl, rfl⟩
  ·have h0 := parts_fin b hn (by rw [hmag]; omega)
   have hs : sigC (magC b) = m + 2 ^ 52 := by unfold sigC; rw [e3, e4, if_pos (by omega)]
   have hp : powC (magC b) = (E : Int) - 1075 := by unfold powC; rw [e3, if_pos (by omega)]
   rw [hs, hp] at h0
   have a2 : ((E : Int) == 0) = false := by rw [beq_eq_false_iff_ne]; omega
   have a3 : (0 : Int) < (E : Int) := by omega
   obtain ⟨M0, hM⟩ : ∃ M0, M0 = m + 2 ^ 52 := ⟨_, rfl⟩
   obtain ⟨P0, hP⟩ : ∃ P0 : Int, P0 = (E : Int) - 1075 := ⟨_, rfl⟩
   rw [← hM, ← hP] at h0
   have hM0 : 0 < M0 := by omega
   have hM1 : M0 < 2 ^ 53 := by omega
   have hP0 : -1074 ≤ P0 := by omega
   have hP1 : P0 + twosC M0 ≤ 1100 := by have := twos_le M0 53 hM0 hM1; omega
   have a4 : IntKind.u64.wrap ((m : Int) + 4503599627370496) = (M0 : Int) := by rw [IntKind.wrap_u64]; omega
   have a5 : IntKind.i64.wrap ((E : Int) - 1075) = P0 := by rw [IntKind.wrap_i64]; omega
   have HW := Lib.hid (HV.out.trans h0)
   clear HV hn hmag e1 e2 e3 e4 hs hp h0 hM hP
   generalize negC b = g at *
   go_enter Tryz.func126, Tryz.ntmps126
   go_wp2
   go_loop [8, 9] (fun x y => ∃ (M : Nat) (P : Int), 0 < M ∧ M < 2 ^ 53 ∧ -1074 ≤ P ∧ P + twosC M ≤ 1100 ∧ x = .int .u64 M ∧ y = .int .i64 P ∧ oddC M = oddC M0 ∧ P + twosC M = P0 + twosC M0) (fun x _ => (intOf x).toNat)
   case atStart => exact ⟨M0, P0, hM0, hM1, hP0, hP1, rfl, rfl, rfl, rfl⟩
   case round =>
    clear hM0 hM1 hP0 hP1
    obtain ⟨M, P, h1, h2, h3, h4, rfl, rfl, h5, h6⟩ := hrel
    by_cases hev : M % 2 = 0
    ·have hmod : ((M : Int)).tmod 2 = 0 := by rw [Int.tmod_eq_emod_of_nonneg (by omega)]; omega
     have g1 := oddC_even M (by omega) hev
     have g2 := twosC_even M (by omega) hev
     obtain ⟨q, hq⟩ : ∃ q, q = M / 2 := ⟨_, rfl⟩
     rw [← hq] at g1 g2
     have hq1 : 0 < q := by omega
     have hq2 : q < M := by omega
     have hdiv : (M : Int) / 2 = (q : Int) := by omega
     have hw : IntKind.i64.wrap (P + 1) = P + 1 := by rw [IntKind.wrap_i64]; omega
     have hwq : IntKind.u64.wrap (q : Int) = (q : Int) := by rw [IntKind.wrap_u64]; omega
     have HR := Lib.hid (show 0 < q ∧ q < 2 ^ 53 ∧ -1074 ≤ P + 1 ∧ P + 1 + twosC q ≤ 1100 ∧ oddC q = oddC M0 ∧ P + 1 + twosC q = P0 + twosC M0 from ⟨hq1, by omega, by omega, by omega, by rw [← g1, h5], by omega⟩)
     have HQ := Lib.hid hq2
     clear hq g1 g2 h5 h6 hev h4 hq1 hq2
     go_wp2
     go_round
     case rel =>
      obtain ⟨r1, r2, r3, r4, r5, r6⟩ := HR.out
      exact ⟨q, P + 1, r1, r2, r3, r4, rfl, rfl, r5, r6⟩
     case measure =>
      have := HQ.out
      simp [intOf]; omega
    ·have hmod : ((M : Int)).tmod 2 = 1 := by rw [Int.tmod_eq_emod_of_nonneg (by omega)]; omega
     have g1 := oddC_odd M (by omega)
     have g2 := twosC_odd M (by omega)
     have HX := Lib.hid (show V = (g, M, P) by rw [HW.out, ← h5, ← h6, g1, g2]; simp)
     clear g1 g2 h5 h6 hev h4
     go_wp2
     go_ret3
     exact ⟨by rw [HX.out]; rfl, rfl⟩
theorem hexD_small (n : Nat) (h : n < 10) : ((hexD n).toNat : Int) = 48 + n := by
 unfold hexD
 rw [if_pos h, UInt8.toNat_ofNat']
 omega
set_option maxHeartbeats 2000000 in
theorem fnum_any (k : Nat) : ∀ (n : Nat) (w : World), n ≤ k → n < 2 ^ 64 →
  Calls Tryz.prog 127 #[.int .u64 n] w fun e w' => e = .returned (.string (bstr (numL 10 n))) ∧ Below w.heap.size w w' := by
 induction k using Nat.strongRecOn with
 | _ k ih =>
  intro n w hk hm
  by_cases hlt : n < 10
  ·have hN := Lib.hid (numL_small 10 n hlt)
   have hlt' : (n : Int) < 10 := by omega
   have hd := hexD_small n hlt
   generalize hexD n = x at *
   have hw1 : IntKind.u64.wrap (48 + (n : Int)) = 48 + (n : Int) := by rw [IntKind.wrap_u64]; omega
   have hw2 : IntKind.u8.wrap (48 + (n : Int)) = (x.toNat : Int) := by rw [IntKind.wrap_u8]; omega
   have hsl := sl_lit w [x] #[.int .u8 (x.toNat : Int)] (0, 0) rfl 1 rfl
   have hcv := conv_bytes hsl 1 rfl
   have hb : Below w.heap.size w (w.alloc (.cells #[.int .u8 (x.toNat : Int)] 5 (0, 0))) := (Below.refl _ w).alloc (Nat.le_refl _) _
   clear hsl ih hd
   go_enter Tryz.func127, Tryz.ntmps127
   go_wp2_with fail
   go_ret
   exact ⟨by rw [hN.out]; rfl, hb⟩
  ·have hge : (10 : Int) ≤ (n : Int) := by omega
   have hN := Lib.hid (numL_great 10 n (by omega) (by omega))
   have hq := Lib.hid (show ∀ w', Calls Tryz.prog 127 #[.int .u64 ((n : Int) / 10)] w' fun e w'' => e = .returned (.string (bstr (numL 10 (n / 10)))) ∧ Below w'.heap.size w' w'' from fun w' => ih (n / 10) (by omega) (n / 10) w' (Nat.le_refl _) (by omega))
   have hr := Lib.hid (show ∀ w', Calls Tryz.prog 127 #[.int .u64 ((n : Int) % 10)] w' fun e w'' => e = .returned (.string (bstr [hexD (n % 10)])) ∧ Below w'.heap.size w' w'' from by
    rw [← numL_small 10 (n % 10) (by omega)]; exact fun w' => ih (n % 10) (by omega) (n % 10) w' (Nat.le_refl _) (by omega))
   have hY := numL_len 10 (by omega) 62 (n / 10) (by omega)
   generalize hXn : numL 10 n = X at *
   generalize numL 10 (n / 10) = Y at *
   have hZ : [hexD (n % 10)].length = 1 := rfl
   generalize [hexD (n % 10)] = Z at *
   have hzY := size_bstr Y
   have hzZ := size_bstr Z
   have hw1 : IntKind.u64.wrap ((n : Int) / 10) = (n : Int) / 10 := by rw [IntKind.wrap_u64]; omega
   have hw2 : ((n : Int)).tmod 10 = (n : Int) % 10 := Int.tmod_eq_emod_of_nonneg (by omega)
   have tok : True := trivial
   clear ih hXn
   go_enter Tryz.func127, Tryz.ntmps127
   go_wp2_with (first
    | (go_at_call 127; have _t := tok; refine (hq.out _).mono ?_; rintro e w1 ⟨rfl, hb1⟩; clear tok)
    | (go_at_call 127; refine (hr.out _).mono ?_; rintro e w2 ⟨rfl, hb2⟩))
   go_ret
   exact ⟨by rw [hN.out, ← bstr_cat12]; rfl, hb1.trans (hb2.mono hb1.size)⟩
theorem rank_zero (b : Nat) (h : magC b = 0) : rankC b = 0 := by
 unfold rankC; rw [h]; cases negC b <;> rfl
theorem rank_pos (b : Nat) (h : magC b ≠ 0) : rankC b ≠ 0 := by
 unfold rankC; cases negC b <;> simp <;> omega
theorem nan_zero : nanC 0 = false := by decide
theorem order_zero (b : Nat) (hb : b < 2 ^ 64) (hn : nanC b = false) (h : magC b = 0) : FloatKind.f64.format.order b 0 = some .eq := by
 rw [order_of b 0 hb (by omega), if_neg (by rw [hn, nan_zero]; simp), rank_zero b h, rank_zero 0 (by decide), compare_self]
theorem order_other (b : Nat) (hb : b < 2 ^ 64) (hn : nanC b = false) (h : magC b ≠ 0) : (FloatKind.f64.format.order b 0 = some .lt ∨ FloatKind.f64.format.order b 0 = some .gt) := by
 rw [order_of b 0 hb (by omega), if_neg (by rw [hn, nan_zero]; simp), rank_zero 0 (by decide)]
 have h0 := rank_pos b h
 rcases Int.lt_trichotomy (rankC b) 0 with h1 | h1 | h1
 ·exact .inl (by rw [cmp_lt h1])
 ·exact absurd h1 h0
 ·exact .inr (by rw [cmp_gt h1])
theorem text_nan (b : Nat) (h : nanC b = true) : textC b = [] := by unfold textC; rw [if_pos h]
theorem text_of (b : Nat) (h : nanC b = false) : textC b = (if negC b then [45] else []) ++ bodyC (magC b) := by unfold textC; rw [if_neg (by rw [h]; simp)]
theorem body_fin (a : Nat) (h0 : a ≠ 0) (h1 : a ≠ 2047 * 2 ^ 52) : bodyC a = numL 10 (oddC (sigC a)) ++ 112 :: intL (powC a + twosC (sigC a)) := by unfold bodyC; rw [if_neg h0, if_neg h1]
theorem fin_bounds (b : Nat) (hn : nanC b = false) (h0 : magC b ≠ 0) (h1 : magC b ≠ 2047 * 2 ^ 52) : 0 < oddC (sigC (magC b)) ∧ oddC (sigC (magC b)) < 2 ^ 53 ∧ -1074 ≤ powC (magC b) + twosC (sigC (magC b)) ∧ powC (magC b) + twosC (sigC (magC b)) ≤ 1100 := by
 have hle : magC b < 2047 * 2 ^ 52 := by
  unfold nanC at hn
  have := of_decide_eq_false hn
  omega
 have hf : FinC (magC b) := ⟨by omega, hle⟩
 have hs := sig_pos _ hf
 obtain ⟨g1, -⟩ := fit_of _ hf
 obtain ⟨o1, o2⟩ := odd_twos (sigC (magC b)) (by omega)
 have hsl : sigC (magC b) < 2 ^ 53 := by rcases g1 with ⟨_, h, _⟩ | ⟨_, h, _, _⟩ <;> omega
 have hpow : -1074 ≤ powC (magC b) ∧ powC (magC b) ≤ 971 := by rcases g1 with ⟨_, _, h⟩ | ⟨_, _, h, h'⟩ <;> omega
 have ht := twos_le (sigC (magC b)) 53 hs hsl
 have hle2 : oddC (sigC (magC b)) ≤ oddC (sigC (magC b)) * 2 ^ twosC (sigC (magC b)) := Nat.le_mul_of_pos_right _ (Nat.pow_pos (by omega))
 rw [← o2] at hle2
 refine ⟨by omega, by omega, by omega, by omega⟩
set_option maxHeartbeats 4000000 in
theorem ftext_any (b : Nat) (hb : b < 2 ^ 64) (w : World) : Calls Tryz.prog 97 #[.float .f64 b] w fun e w' => e = .returned (.string (bstr (textC b))) ∧ Below w.heap.size w w' := by
 have hpt := fparts_any b hb w
 have tok : True := trivial
 cases hn : nanC b with
 | true =>
  have o1 := order_nan b hb hn
  have HW := Lib.hid (text_nan b hn)
  clear hn hpt
  go_enter Tryz.func97, Tryz.ntmps97
  go_wp2
  go_ret
  exact ⟨by rw [HW.out]; rfl, Below.refl _ _⟩
 | false =>
  have o1 := order_eq b hb hn
  by_cases h0 : magC b = 0
  ·have o2 := order_zero b hb hn h0
   have HW := Lib.hid (show textC b = (if negC b then [45] else []) ++ [48] by rw [text_of b hn, h0]; rfl)
   rw [parts_edge b hn (.inr h0)] at hpt
   have HP := Lib.hid hpt
   clear hpt hn h0
   cases hg : negC b with
   | true =>
    rw [hg] at HP HW
    go_enter Tryz.func97, Tryz.ntmps97
    go_wp2_with (go_at_call 126; refine HP.out.mono ?_; rintro e w0 ⟨rfl, rfl⟩)
    go_ret
    exact ⟨by rw [HW.out]; rfl, Below.refl _ _⟩
   | false =>
    rw [hg] at HP HW
    go_enter Tryz.func97, Tryz.ntmps97
    go_wp2_with (go_at_call 126; refine HP.out.mono ?_; rintro e w0 ⟨rfl, rfl⟩)
    go_ret
    exact ⟨by rw [HW.out]; rfl, Below.refl _ _⟩
  ·have o2 := order_other b hb hn h0
   by_cases hi : magC b = 2047 * 2 ^ 52
   ·have HW := Lib.hid (show textC b = (if negC b then [45] else []) ++ [105, 110, 102] by rw [text_of b hn, hi]; rfl)
    rw [parts_edge b hn (.inl hi)] at hpt
    have HP := Lib.hid hpt
    clear hpt hn h0 hi
    rcases o2 with o2 | o2
    all_goals cases hg : negC b
    all_goals rw [hg] at HP HW
    all_goals clear hg
    ·go_enter Tryz.func97, Tryz.ntmps97
     go_wp2_with (go_at_call 126; refine HP.out.mono ?_; rintro e w0 ⟨rfl, rfl⟩)
     go_ret
     exact ⟨by rw [HW.out]; rfl, Below.refl _ _⟩
    ·go_enter Tryz.func97, Tryz.ntmps97
     go_wp2_with (go_at_call 126; refine HP.out.mono ?_; rintro e w0 ⟨rfl, rfl⟩)
     go_ret
     exact ⟨by rw [HW.out]; rfl, Below.refl _ _⟩
    ·go_enter Tryz.func97, Tryz.ntmps97
     go_wp2_with (go_at_call 126; refine HP.out.mono ?_; rintro e w0 ⟨rfl, rfl⟩)
     go_ret
     exact ⟨by rw [HW.out]; rfl, Below.refl _ _⟩
    ·go_enter Tryz.func97, Tryz.ntmps97
     go_wp2_with (go_at_call 126; refine HP.out.mono ?_; rintro e w0 ⟨rfl, rfl⟩)
     go_ret
     exact ⟨by rw [HW.out]; rfl, Below.refl _ _⟩
   ·obtain ⟨b1, b2, b3, b4⟩ := fin_bounds b hn h0 hi
    have hT := show textC b = (if negC b then [45] else []) ++ (numL 10 (oddC (sigC (magC b))) ++ 112 :: intL (powC (magC b) + twosC (sigC (magC b)))) by rw [text_of b hn, body_fin _ h0 hi]
    rw [parts_fin b hn (by rintro (h | h); exact hi h; exact h0 h)] at hpt
    generalize oddC (sigC (magC b)) = m at *
    generalize powC (magC b) + (twosC (sigC (magC b)) : Int) = P at *
    obtain ⟨k, hk⟩ : ∃ k, k = P.natAbs := ⟨_, rfl⟩
    have hn1 := Lib.hid (fun w' => fnum_any m m w' (Nat.le_refl _) (by omega))
    have hn2 := Lib.hid (fun w' => fnum_any k k w' (Nat.le_refl _) (by omega))
    have hX := numL_len 10 (by omega) 20 m (by omega)
    have hY := numL_len 10 (by omega) 20 k (by omega)
    have hzX := size_bstr (numL 10 m)
    have hzY := size_bstr (numL 10 k)
    have hm0 : ((m : Int) == 0) = false := by rw [beq_eq_false_iff_ne]; omega
    have HP := Lib.hid hpt
    have HI := Lib.hid (show intL P = if P < 0 then 45 :: numL 10 k else numL 10 k by rw [hk]; rfl)
    have HT := Lib.hid hT
    clear hpt hn h0 hi hT b1 b2
    generalize intL P = I at *
    generalize numL 10 m = X at *
    generalize numL 10 k = Y at *
    clear o2
    by_cases hp : P < 0
    ·have hw1 : IntKind.i64.wrap (-P) = (k : Int) := by rw [IntKind.wrap_i64]; omega
     have hw2 : IntKind.u64.wrap (k : Int) = (k : Int) := by rw [IntKind.wrap_u64]; omega
     have HJ := Lib.hid (HI.out.trans (if_pos hp))
     clear HI hk
     cases hg : negC b with
     | true =>
      rw [hg] at HP HT
      go_enter Tryz.func97, Tryz.ntmps97
      go_wp2_with (first
       | (go_at_call 126; refine HP.out.mono ?_; rintro e w0 ⟨rfl, rfl⟩)
       | (go_at_call 127; have _t := tok; refine (hn1.out _).mono ?_; rintro e w1 ⟨rfl, hb1⟩; clear tok)
       | (go_at_call 127; refine (hn2.out _).mono ?_; rintro e w2 ⟨rfl, hb2⟩))
      go_ret
      exact ⟨by rw [HT.out, HJ.out]; show Ending.returned (.string (((bstr [45] ++ bstr X) ++ bstr [112, 45]) ++ bstr Y)) = _; rw [bstr_cat12, bstr_cat12, bstr_cat12]; simp, hb1.trans (hb2.mono hb1.size)⟩
     | false =>
      rw [hg] at HP HT
      go_enter Tryz.func97, Tryz.ntmps97
      go_wp2_with (first
       | (go_at_call 126; refine HP.out.mono ?_; rintro e w0 ⟨rfl, rfl⟩)
       | (go_at_call 127; have _t := tok; refine (hn1.out _).mono ?_; rintro e w1 ⟨rfl, hb1⟩; clear tok)
       | (go_at_call 127; refine (hn2.out _).mono ?_; rintro e w2 ⟨rfl, hb2⟩))
      go_ret
      exact ⟨by rw [HT.out, HJ.out]; show Ending.returned (.string (((bstr [] ++ bstr X) ++ bstr [112, 45]) ++ bstr Y)) = _; rw [bstr_cat12, bstr_cat12, bstr_cat12]; simp, hb1.trans (hb2.mono hb1.size)⟩
    ·have hp' : (0 : Int) ≤ P := by omega
     have hw2 : IntKind.u64.wrap P = (k : Int) := by rw [IntKind.wrap_u64]; omega
     have HJ := Lib.hid (HI.out.trans (if_neg hp))
     clear HI hk hp
     cases hg : negC b with
     | true =>
      rw [hg] at HP HT
      go_enter Tryz.func97, Tryz.ntmps97
      go_wp2_with (first
       | (go_at_call 126; refine HP.out.mono ?_; rintro e w0 ⟨rfl, rfl⟩)
       | (go_at_call 127; have _t := tok; refine (hn1.out _).mono ?_; rintro e w1 ⟨rfl, hb1⟩; clear tok)
       | (go_at_call 127; refine (hn2.out _).mono ?_; rintro e w2 ⟨rfl, hb2⟩))
      go_ret
      exact ⟨by rw [HT.out, HJ.out]; show Ending.returned (.string (((bstr [45] ++ bstr X) ++ bstr [112]) ++ bstr Y)) = _; rw [bstr_cat12, bstr_cat12, bstr_cat12]; simp, hb1.trans (hb2.mono hb1.size)⟩
     | false =>
      rw [hg] at HP HT
      go_enter Tryz.func97, Tryz.ntmps97
      go_wp2_with (first
       | (go_at_call 126; refine HP.out.mono ?_; rintro e w0 ⟨rfl, rfl⟩)
       | (go_at_call 127; have _t := tok; refine (hn1.out _).mono ?_; rintro e w1 ⟨rfl, hb1⟩; clear tok)
       | (go_at_call 127; refine (hn2.out _).mono ?_; rintro e w2 ⟨rfl, hb2⟩))
      go_ret
      exact ⟨by rw [HT.out, HJ.out]; show Ending.returned (.string (((bstr [] ++ bstr X) ++ bstr [112]) ++ bstr Y)) = _; rw [bstr_cat12, bstr_cat12, bstr_cat12]; simp, hb1.trans (hb2.mono hb1.size)⟩
def flatP (l : List (List UInt8)) : List UInt8 := l.flatMap fun w => 47 :: w
theorem flatP_app (l k : List (List UInt8)) : flatP (l ++ k) = flatP l ++ flatP k := by unfold flatP; rw [List.flatMap_append]
theorem flatP_one (w : List UInt8) : flatP [w] = 47 :: w := by unfold flatP; simp
theorem flatP_eq_nil (l : List (List UInt8)) : flatP l = [] ↔ l = [] := by
 cases l with
 | nil => exact ⟨fun _ => rfl, fun _ => rfl⟩
 | cons w l => constructor <;> intro h <;> cases h
theorem flatP_last (l : List (List UInt8)) (h : l ≠ []) : flatP l = flatP l.dropLast ++ 47 :: l.getLast h := by
 conv => lhs; rw [← List.dropLast_concat_getLast h]
 rw [flatP_app, flatP_one]
theorem joinP_flat (l : List (List UInt8)) : joinP l = if l = [] then [47] else flatP l := rfl
def alongL (l : List (List UInt8)) (w : List UInt8) : Option (List (List UInt8)) :=
 if w = [] ∨ w = [46] then some l
 else if w = [46, 46] then (if l = [] then none else some l.dropLast)
 else if nameL w then some (l ++ [w]) else none
theorem goN_along (l : List (List UInt8)) (w : List UInt8) (ws : List (List UInt8)) : goN l (w :: ws) = match alongL l w with
  | none => none
  | some k => goN k ws := by
 rw [goN]
 unfold alongL
 split
 ·rfl
 ·split
  ·split <;> rfl
  ·split <;> rfl
theorem along_names (l k : List (List UInt8)) (w : List UInt8) (hl : ∀ v ∈ l, nameL v = true) (h : alongL l w = some k) : ∀ v ∈ k, nameL v = true := by
 refine goN_names [w] l k hl ?_
 rw [goN_along, h]; rfl
theorem nameL_len (w : List UInt8) (h : nameL w = true) : w.length ≤ 64 := by
 unfold nameL at h
 simp only [Bool.and_eq_true, decide_eq_true_iff] at h
 exact h.1.1.1.2
theorem right_norm (p : List UInt8) : rightL p = decide (normL p = some p) := by
 by_cases h : rightL p = true
 ·rw [h]
  symm
  rw [decide_eq_true_iff]
  obtain ⟨r, rfl⟩ := right_head p h
  by_cases hr : r = []
  ·subst hr; rfl
  ·have h' : (decide (r = []) || (decide (r.length + 1 ≤ 256) && (splitL 47 r).all nameL)) = true := h
   rw [decide_eq_false hr, Bool.false_or, Bool.and_eq_true, decide_eq_true_iff, List.all_eq_true] at h'
   obtain ⟨h1, h2⟩ := h'
   have he := splitL_ne 47 r
   have e1 := (joinP_split (splitL 47 r) he h2).1
   rw [glueL_split] at e1
   show (match goN [] (splitL 47 r) with
    | none => none
    | some l => if (joinP l).length ≤ 256 then some (joinP l) else none) = _
   rw [goN_self (splitL 47 r) [] h2, List.nil_append]
   show (if (joinP (splitL 47 r)).length ≤ 256 then some (joinP (splitL 47 r)) else none) = _
   rw [e1, if_pos (by rw [List.length_cons]; exact h1)]
 ·have hf : rightL p = false := by simpa using h
  rw [hf]
  symm
  rw [decide_eq_false_iff_not]
  intro e
  exact h (normL_right p p e).1
theorem namesL_right (p r : List UInt8) (h : rightL p = true) (e : p = 47 :: r) (hr : r ≠ []) : namesL p = splitL 47 r := by
 subst e
 show (if rightL (47 :: r) = true ∧ r ≠ [] then splitL 47 r else []) = _
 rw [if_pos ⟨h, hr⟩]
theorem namesL_off (p : List UInt8) (h : rightL p = false ∨ p = [47]) : namesL p = [] := by
 rcases h with h | h
 ·unfold namesL
  split
  ·rw [if_neg]
   rintro ⟨h1, -⟩
   rw [h] at h1; cases h1
  ·rfl
 ·subst h; rfl
def underN (top p : List UInt8) : Bool := rightL top && rightL p && (decide ((namesL top).length ≤ (namesL p).length) && decide (namesL top = (namesL p).take (namesL top).length))
theorem underN_eq (top p : List UInt8) : underN top p = underL top p := by
 unfold underN underL
 by_cases h1 : rightL top = true
 ·by_cases h2 : rightL p = true
  ·rw [h1, h2, Bool.true_and, Bool.true_and]
   obtain ⟨r, rfl⟩ := right_head top h1
   obtain ⟨q, rfl⟩ := right_head p h2
   by_cases hr : r = []
   ·subst hr
    rw [namesL_off [47] (.inr rfl)]
    simp
   ·have n1 := namesL_right _ r h1 rfl hr
    have hL := splitL_ne 47 r
    have hrl : 0 < r.length := List.length_pos_iff.2 hr
    have hne : (47 : UInt8) :: r ≠ [47] := fun e => hr (List.cons.inj e).2
    by_cases hq : q = []
    ·subst hq
     rw [n1, namesL_off [47] (.inr rfl), decide_eq_false hne, decide_eq_false (show ¬ [47] = (47 : UInt8) :: r from fun e => hne e.symm), decide_eq_false (show ¬ ((47 : UInt8) :: r).length < [(47 : UInt8)].length by simp)]
     rw [decide_eq_false (show ¬ (splitL 47 r).length ≤ ([] : List (List UInt8)).length by
      intro h; exact hL (List.length_eq_zero_iff.1 (Nat.le_zero.1 h)))]
     rfl
    ·have n2 := namesL_right _ q h2 rfl hq
     rw [n1, n2, decide_eq_false hne, Bool.false_or]
     rw [Bool.eq_iff_iff]
     simp only [Bool.and_eq_true, Bool.or_eq_true, decide_eq_true_iff]
     constructor
     ·rintro ⟨-, h4⟩
      have e : splitL 47 q = splitL 47 r ++ (splitL 47 q).drop (splitL 47 r).length := by
       conv => lhs; rw [← List.take_append_drop (splitL 47 r).length (splitL 47 q), ← h4]
      by_cases hd : (splitL 47 q).drop (splitL 47 r).length = []
      ·refine ⟨trivial, .inl ?_⟩
       rw [hd, List.append_nil] at e
       rw [← glueL_split 47 q, e, glueL_split]
      ·refine ⟨trivial, .inr ?_⟩
       have e2 : q = r ++ 47 :: glueL 47 ((splitL 47 q).drop (splitL 47 r).length) := by
        conv => lhs; rw [← glueL_split 47 q, e, glueL_app 47 _ _ hL hd, glueL_split]
       generalize glueL 47 ((splitL 47 q).drop (splitL 47 r).length) = z at e2
       subst e2
       refine ⟨⟨by simp, ?_⟩, ?_⟩
       ·rw [List.length_cons, List.take_succ_cons, List.take_left']; rfl
       ·rw [List.getD_eq_getElem?_getD, List.length_cons, List.getElem?_cons_succ, List.getElem?_append_right (Nat.le_refl _), Nat.sub_self]; rfl
     ·rintro ⟨-, h | ⟨⟨h3, h4⟩, h5⟩⟩
      ·have e := (List.cons.inj h).2
       subst e
       exact ⟨Nat.le_refl _, by rw [List.take_length]⟩
      ·have e : q = r ++ 47 :: q.drop (r.length + 1) := by
        rw [List.length_cons, List.take_succ_cons] at h4
        have h4' : q.take r.length = r := (List.cons.inj h4).2
        rw [List.length_cons, List.length_cons] at h3
        have hlt : r.length < q.length := by omega
        rw [List.length_cons, List.getD_eq_getElem?_getD, List.getElem?_cons_succ, List.getElem?_eq_getElem hlt] at h5
        have h5' : q[r.length] = 47 := h5
        conv => lhs; rw [← List.take_append_drop r.length q, h4', List.drop_eq_getElem_cons hlt, h5']
       have e3 : splitL 47 q = splitL 47 r ++ splitL 47 (q.drop (r.length + 1)) := by
        conv => lhs; rw [e]
        exact splitL_app 47 r _
       rw [e3]
       refine ⟨by rw [List.length_append]; omega, ?_⟩
       rw [List.take_left']; rfl
  ·have hf : rightL p = false := by simpa using h2
   rw [hf, Bool.and_false, Bool.false_and, Bool.false_and]
 ·have hf : rightL top = false := by simpa using h1
  rw [hf]; rfl
theorem names_sum (p : List UInt8) : (namesL p).length ≤ p.length + 1 := by
 unfold namesL
 split
 ·split
  ·have := splitL_len 47 ‹_›; rw [List.length_cons]; omega
  ·simp
 ·simp
end Go.Proofs.YtjieebmcbpdeiaaGreatDoor
