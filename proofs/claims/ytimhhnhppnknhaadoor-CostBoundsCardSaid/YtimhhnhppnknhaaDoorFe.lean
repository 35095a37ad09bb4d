/- LAYER 15: the document's digits. -/
import Derived.Test.YtimhhnhppnknhaaDoorFd
namespace Go.Proofs.YtimhhnhppnknhaaDoor
set_option maxRecDepth 100000
open Go Go.RowKit

theorem digI_ten (c : UInt8) : digI 10 c = if 48 ≤ c.toNat ∧ c.toNat ≤ 57 then (c.toNat : Int) - 48 else -1 := by
  have h : ∀ n : Fin 256, digI 10 (UInt8.ofNat n.1) = if 48 ≤ n.1 ∧ n.1 ≤ 57 then (n.1 : Int) - 48 else -1 := by decide +kernel
  have := h ⟨c.toNat, c.toNat_lt⟩
  simpa using this
theorem foldV_bad (s : List UInt8) (k m : Nat) (h : k < s.length) (hc : ¬ (48 ≤ (s.getD k 0).toNat ∧ (s.getD k 0).toNat ≤ 57)) : foldV 10 m (s.drop k) = none := by
  rw [foldV_at 10 m k s h, digI_ten, if_neg hc]; rfl
theorem foldV_good (s : List UInt8) (k m : Nat) (h : k < s.length) (hc : 48 ≤ (s.getD k 0).toNat ∧ (s.getD k 0).toNat ≤ 57) : foldV 10 m (s.drop k) = foldV 10 (m * 10 + ((s.getD k 0).toNat - 48)) (s.drop (k + 1)) := by
  rw [foldV_at 10 m k s h, digI_ten, if_pos hc, if_neg (by omega)]
  congr 1
  omega
/-- What digits answers: whether they are a number's, and, if so, which one's. -/
def GaveDigits (most : Nat) (s : List UInt8) (w : World) (e : Ending) (w' : World) : Prop :=
  ∃ n : Nat, e = .returned (.tuple #[.int .u64 (n : Int), .bool (valueL 10 most s).isSome]) ∧ n < 10 ^ most ∧ (∀ v, valueL 10 most s = some v → n = v) ∧ Below w.heap.size w w'
set_option maxHeartbeats 4000000 in
theorem fdigits_any (s : List UInt8) (hs : s.length ≤ 1000) (most : Nat) (hm : most ≤ 16) (w : World) : Calls Tryd.prog 28 #[.string (bstr s), .int .i64 most] w (GaveDigits most s w) := by
  have hz := size_bstr s
  by_cases hlong : most < s.length
  · have HV := Lib.hid (show valueL 10 most s = none by unfold valueL; rw [if_pos (.inr hlong)])
    have a1 : (most : Int) < (s.length : Int) := by omega
    clear hlong
    go_enter Tryd.func28, Tryd.ntmps28
    go_wp2
    go_ret2
    exact ⟨0, by rw [HV.out]; rfl, Nat.pow_pos (by omega), (fun v h => by rw [HV.out] at h; cases h), Below.refl _ _⟩
  · have a1 : (s.length : Int) ≤ (most : Int) := by omega
    have HV := Lib.hid (show valueL 10 most s = if s.length = 0 then none else match foldV 10 0 s with
      | none => none
      | some n => if numL 10 n = s then some n else none by
        unfold valueL
        by_cases h0 : s.length = 0
        · rw [if_pos (.inl h0), if_pos h0]
        · rw [if_neg (by omega), if_neg h0]; rfl)
    have hl16 : s.length ≤ 16 := by omega
    go_enter Tryd.func28, Tryd.ntmps28
    go_wp2
    have HLM := Lib.hid (show s.length ≤ most by omega)
    clear a1 hlong
    go_loop [6, 7] (fun x i => ∃ k m : Nat, k ≤ s.length ∧ i = .int .i64 k ∧ x = .int .u64 m ∧ m < 10 ^ k ∧ foldV 10 m (s.drop k) = foldV 10 0 s) (fun _ i => s.length - (intOf i).toNat)
    case atStart => exact ⟨0, 0, by omega, rfl, rfl, by decide, rfl⟩
    case round =>
      obtain ⟨k, m, hk, rfl, rfl, hmk, hf⟩ := hrel
      by_cases hlt : k < s.length
      · have hlt' : (k : Int) < (s.length : Int) := by omega
        have hix := index_bstr s k hlt
        have HB := Lib.hid (fun h => hf.symm.trans (foldV_bad s k m hlt h))
        have HG := Lib.hid (fun h => (foldV_good s k m hlt h).symm.trans hf)
        have hbd := byte_bd (s.getD k 0)
        generalize s.getD k 0 = c at *
        clear hf
        by_cases hc : 48 ≤ c.toNat ∧ c.toNat ≤ 57
        · have HN := Lib.hid (HG.out hc)
          have c1 : decide ((c.toNat : Int) < 48) = false := decide_eq_false (by omega)
          have c2 : decide ((57 : Int) < (c.toNat : Int)) = false := decide_eq_false (by omega)
          have hP : 10 ^ k ≤ 10 ^ 15 := Nat.pow_le_pow_right (by omega) (by omega)
          have HP := Lib.hid (show 10 ^ (k + 1) = 10 ^ k * 10 from Nat.pow_succ ..)
          have hw1 : IntKind.u64.wrap ((m : Int) * 10) = (m : Int) * 10 := by rw [IntKind.wrap_u64]; omega
          have hw0 : IntKind.u64.wrap (c.toNat : Int) = (c.toNat : Int) := by rw [IntKind.wrap_u64]; omega
          have hw2 : IntKind.u64.wrap ((m : Int) * 10 + (c.toNat : Int)) = (m : Int) * 10 + (c.toNat : Int) := by rw [IntKind.wrap_u64]; omega
          have hw3 : IntKind.u64.wrap ((m : Int) * 10 + (c.toNat : Int) - 48) = ((m * 10 + (c.toNat - 48) : Nat) : Int) := by rw [IntKind.wrap_u64]; omega
          have hm2 : m * 10 + (c.toNat - 48) < 10 ^ (k + 1) := by rw [HP.out]; omega
          generalize m * 10 + (c.toNat - 48) = m2 at *
          clear HB HG hc hP
          go_wp2
          go_round
          case rel => exact ⟨k + 1, m2, by omega, by go_num, rfl, hm2, HN.out⟩
          case measure => simp [intOf]; omega
        · have HN := Lib.hid (HB.out hc)
          have HW := Lib.hid (show valueL 10 most s = none by rw [HV.out, HN.out]; split <;> rfl)
          clear HB HG HV HN
          by_cases c1 : c.toNat < 48
          · have c1' : (c.toNat : Int) < 48 := by omega
            clear hc c1
            go_wp2
            go_ret2
            exact ⟨0, by rw [HW.out]; rfl, Nat.pow_pos (by omega), (fun v h => by rw [HW.out] at h; cases h), Below.refl _ _⟩
          · have c1' : decide ((c.toNat : Int) < 48) = false := decide_eq_false (by omega)
            have c2' : (57 : Int) < (c.toNat : Int) := by omega
            clear hc c1
            go_wp2
            go_ret2
            exact ⟨0, by rw [HW.out]; rfl, Nat.pow_pos (by omega), (fun v h => by rw [HW.out] at h; cases h), Below.refl _ _⟩
      · obtain rfl : k = s.length := by omega
        have hf0 : foldV 10 0 s = some m := by rw [← hf, List.drop_length]; rfl
        have hval : valueL 10 most s = if numL 10 m = s then some m else none := by
          rw [HV.out, hf0]
          by_cases h0 : s.length = 0
          · have e := List.length_eq_zero_iff.1 h0
            rw [if_pos h0, if_neg (by rw [e]; exact numL_ne 10 m)]
          · rw [if_neg h0]
        have hm16 : m < 10 ^ most := Nat.lt_of_lt_of_le hmk (Nat.pow_le_pow_right (by omega) HLM.out)
        have hm64 : m < 2 ^ 64 := by have : 10 ^ s.length ≤ 10 ^ 16 := Nat.pow_le_pow_right (by omega) hl16; omega
        have hn := Lib.hid (fun w' => fnum_any m m w' (Nat.le_refl _) hm64)
        have he := bstr_beq (numL 10 m) s
        have HW := Lib.hid hval
        clear HV hf hf0 hval hmk
        by_cases hs2 : numL 10 m = s
        · have HX := Lib.hid (HW.out.trans (if_pos hs2))
          rw [decide_eq_true hs2] at he
          clear HW hs2
          generalize numL 10 m = X at *
          go_wp2_with (go_at_call 32; refine (hn.out _).mono ?_; rintro e w1 ⟨rfl, hb1⟩)
          go_ret2
          exact ⟨m, by rw [HX.out]; rfl, hm16, (fun v h => by rw [HX.out] at h; exact Option.some.inj h), hb1⟩
        · have HX := Lib.hid (HW.out.trans (if_neg hs2))
          rw [decide_eq_false hs2] at he
          clear HW hs2
          generalize numL 10 m = X at *
          go_wp2_with (go_at_call 32; refine (hn.out _).mono ?_; rintro e w1 ⟨rfl, hb1⟩)
          go_ret2
          exact ⟨m, by rw [HX.out]; rfl, hm16, (fun v h => by rw [HX.out] at h; cases h), hb1⟩
end Go.Proofs.YtimhhnhppnknhaaDoor
