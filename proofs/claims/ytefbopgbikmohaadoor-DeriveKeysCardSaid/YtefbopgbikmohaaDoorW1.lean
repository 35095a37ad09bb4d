/- LAYER 1's SMALL FUNCTIONS: package word's turns and sums, walked. -/
import Derived.Test.YtefbopgbikmohaaDoorU
namespace Go.Proofs.YtefbopgbikmohaaDoor
open Go.RowKit

@[go_sem] theorem and31 (n : Int) : bits .and .u64 (IntKind.u64.wrap n) 31 = n % 32 := by
  show IntKind.u64.wrap ((BitVec.ofInt 64 (IntKind.u64.wrap n) &&& BitVec.ofInt 64 31).toNat : Int) = _
  have h1 : (BitVec.ofInt 64 (IntKind.u64.wrap n)).toNat = (n % 18446744073709551616).toNat := by
    rw [IntKind.wrap_u64, BitVec.toNat_ofInt]; simp
  have h2 : (BitVec.ofInt 64 31).toNat = 2 ^ 5 - 1 := by decide
  rw [BitVec.toNat_and, h1, h2, Nat.and_two_pow_sub_one_eq_mod, IntKind.wrap_u64]
  omega

theorem rot_any (x : BitVec 32) (n : Int) (w : World) :
    Calls Tryd.prog 48 #[.int .u32 (u x), .int .i64 n] w fun e w' => e = .returned (.int .u32 (u (rotl x n))) ∧ w = w' := by
  have hb := u_bd x
  go_enter Tryd.func48, Tryd.ntmps48
  go_wp2
  go_ret
  rw [← rotl_eq]
  exact ⟨rfl, rfl⟩
theorem turn_any (x : BitVec 32) (n : Int) (w : World) :
    Calls Tryd.prog 47 #[.int .u32 (u x), .int .i64 n] w fun e w' => e = .returned (.int .u32 (u (turn x n))) ∧ w = w' := by
  go_enter Tryd.func47, Tryd.ntmps47
  go_wp2_with (go_at_call 48; refine (rot_any _ _ _).mono ?_; rintro e w' ⟨rfl, rfl⟩)
  go_ret
  rw [← rotl_turn x (wrap64 (-n)) n (by unfold wrap64; omega)]
  exact ⟨rfl, rfl⟩
theorem choose_any (x y z : BitVec 32) (w : World) :
    Calls Tryd.prog 41 #[.int .u32 (u x), .int .u32 (u y), .int .u32 (u z)] w fun e w' => e = .returned (.int .u32 (u (uchoose x y z))) ∧ w = w' := by
  go_enter Tryd.func41, Tryd.ntmps41
  go_wp2
  go_ret
  exact ⟨rfl, rfl⟩
theorem most_any (x y z : BitVec 32) (w : World) :
    Calls Tryd.prog 43 #[.int .u32 (u x), .int .u32 (u y), .int .u32 (u z)] w fun e w' => e = .returned (.int .u32 (u (umost x y z))) ∧ w = w' := by
  go_enter Tryd.func43, Tryd.ntmps43
  go_wp2
  go_ret
  exact ⟨rfl, rfl⟩
def great (i : Int) (x : BitVec 32) : BitVec 32 :=
  if i = 0 then turn x 2 ^^^ turn x 13 ^^^ turn x 22 else if i = 1 then turn x 6 ^^^ turn x 11 ^^^ turn x 25 else 0#32
def small (i : Int) (x : BitVec 32) : BitVec 32 :=
  if i = 0 then turn x 7 ^^^ turn x 18 ^^^ x >>> 3 else if i = 1 then turn x 17 ^^^ turn x 19 ^^^ x >>> 10 else 0#32
theorem u_zero : u 0#32 = 0 := rfl
theorem great_any (i : Int) (x : BitVec 32) (w : World) :
    Calls Tryd.prog 40 #[.int .i64 i, .int .u32 (u x)] w fun e w' => e = .returned (.int .u32 (u (great i x))) ∧ w = w' := by
  by_cases h0 : i = 0
  · subst h0
    go_enter Tryd.func40, Tryd.ntmps40
    go_wp2_with (go_at_call 47; refine (turn_any _ _ _).mono ?_; rintro e w' ⟨rfl, rfl⟩)
    go_ret
    exact ⟨rfl, rfl⟩
  · by_cases h1 : i = 1
    · subst h1
      go_enter Tryd.func40, Tryd.ntmps40
      go_wp2_with (go_at_call 47; refine (turn_any _ _ _).mono ?_; rintro e w' ⟨rfl, rfl⟩)
      go_ret
      exact ⟨rfl, rfl⟩
    · have hg : great i x = 0#32 := by unfold great; rw [if_neg h0, if_neg h1]
      have e0 : (i == 0) = false := by simpa using h0
      have e1 : (i == 1) = false := by simpa using h1
      have HG := Lib.hid hg
      clear hg
      go_enter Tryd.func40, Tryd.ntmps40
      go_wp2
      go_ret
      rw [HG.out, u_zero]
      exact ⟨rfl, rfl⟩
theorem small_any (i : Int) (x : BitVec 32) (w : World) :
    Calls Tryd.prog 46 #[.int .i64 i, .int .u32 (u x)] w fun e w' => e = .returned (.int .u32 (u (small i x))) ∧ w = w' := by
  by_cases h0 : i = 0
  · subst h0
    go_enter Tryd.func46, Tryd.ntmps46
    go_wp2_with (go_at_call 47; refine (turn_any _ _ _).mono ?_; rintro e w' ⟨rfl, rfl⟩)
    go_ret
    exact ⟨rfl, rfl⟩
  · by_cases h1 : i = 1
    · subst h1
      go_enter Tryd.func46, Tryd.ntmps46
      go_wp2_with (go_at_call 47; refine (turn_any _ _ _).mono ?_; rintro e w' ⟨rfl, rfl⟩)
      go_ret
      exact ⟨rfl, rfl⟩
    · have hg : small i x = 0#32 := by unfold small; rw [if_neg h0, if_neg h1]
      have e0 : (i == 0) = false := by simpa using h0
      have e1 : (i == 1) = false := by simpa using h1
      have HG := Lib.hid hg
      clear hg
      go_enter Tryd.func46, Tryd.ntmps46
      go_wp2
      go_ret
      rw [HG.out, u_zero]
      exact ⟨rfl, rfl⟩
end Go.Proofs.YtefbopgbikmohaaDoor
