/- LAYER 16: the document's Number. -/
import Derived.Test.YtbngnmhbnhpbeaaDoorXd
import Derived.Test.YtbngnmhbnhpbeaaDoorXn
namespace Go.Proofs.YtbngnmhbnhpbeaaDoor
set_option maxRecDepth 100000
open Go Go.RowKit

theorem digI_ten16 (c : UInt8) : digI 10 c = if 48 ≤ c.toNat ∧ c.toNat ≤ 57 then (c.toNat : Int) - 48 else -1 := by
  have h : ∀ n : Fin 256, digI 10 (UInt8.ofNat n.1) = if 48 ≤ n.1 ∧ n.1 ≤ 57 then (n.1 : Int) - 48 else -1 := by decide +kernel
  have := h ⟨c.toNat, c.toNat_lt⟩
  simpa using this
theorem fold_bad16 (s : List UInt8) (k m : Nat) (h : k < s.length) (hc : ¬ (48 ≤ (s.getD k 0).toNat ∧ (s.getD k 0).toNat ≤ 57)) : foldV 10 m (s.drop k) = none := by
  rw [foldV_at 10 m k s h, digI_ten16, if_neg hc]; rfl
theorem fold_good16 (s : List UInt8) (k m : Nat) (h : k < s.length) (hc : 48 ≤ (s.getD k 0).toNat ∧ (s.getD k 0).toNat ≤ 57) : foldV 10 m (s.drop k) = foldV 10 (m * 10 + ((s.getD k 0).toNat - 48)) (s.drop (k + 1)) := by
  rw [foldV_at 10 m k s h, digI_ten16, if_pos hc, if_neg (by omega)]
  congr 1
  omega
/-- What Number answers. -/
def numAns (o : Option Nat) : Value := .tuple #[.int .u64 ((o.getD 0 : Nat) : Int), .bool o.isSome]
theorem number_long (s : List UInt8) (h : 20 < s.length) : numberL s = none := by
  unfold numberL valueL
  rw [if_pos (.inr h)]
theorem number_bad (s : List UInt8) (h : foldV 10 0 s = none) : numberL s = none := by
  unfold numberL valueL
  rw [h]
  split
  · rfl
  · rename_i e; split at e <;> cases e
/-- By a fold's sum, held modulo 2^64. -/
theorem number_mod (s : List UInt8) (_hl : s.length ≤ 20) (V : Nat) (h : foldV 10 0 s = some V) : numberL s = if numL 10 (V % 2 ^ 64) = s then some (V % 2 ^ 64) else none := by
  by_cases he : numL 10 (V % 2 ^ 64) = s
  · rw [if_pos he]
    have hlt : V % 2 ^ 64 < 2 ^ 64 := Nat.mod_lt _ (by decide)
    have := number_num (V % 2 ^ 64) hlt
    rw [he] at this
    exact this
  · rw [if_neg he]
    unfold numberL
    cases hv : valueL 10 20 s with
    | none => rfl
    | some n =>
      obtain ⟨h1, -⟩ := (valueL_iff 10 20 (by omega) (by omega) s n).1 hv
      have h2 := foldV_num 10 (by omega) (by omega) n
      rw [h1, h] at h2
      cases h2
      show (if V < 2 ^ 64 then some V else none) = none
      rw [if_neg]
      intro hn
      rw [Nat.mod_eq_of_lt hn] at he
      exact he h1
set_option maxHeartbeats 4000000 in
theorem rnumber16_any (s : List UInt8) (hs : s.length ≤ 100000) (w : World) : Calls Tryd.prog 10 #[.string (bstr s)] w fun e w' => e = .returned (numAns (numberL s)) ∧ Below w.heap.size w w' := by
  have hz := size_bstr s
  by_cases hlong : 20 < s.length
  · have HV := Lib.hid (number_long s hlong)
    have a1 : (20 : Int) < (s.length : Int) := by omega
    clear hlong
    go_enter Tryd.func10, Tryd.ntmps10
    go_wp2
    go_ret2
    exact ⟨by rw [HV.out]; rfl, Below.refl _ _⟩
  · have a1 : decide ((20 : Int) < (s.length : Int)) = false := decide_eq_false (by omega)
    have HL := Lib.hid (show s.length ≤ 20 by omega)
    go_enter Tryd.func10, Tryd.ntmps10
    go_wp2
    clear a1 hlong
    go_loop [4, 5] (fun x i => ∃ k m V : Nat, k ≤ s.length ∧ i = .int .i64 k ∧ x = .int .u64 m ∧ m = V % 2 ^ 64 ∧ foldV 10 V (s.drop k) = foldV 10 0 s) (fun _ i => s.length - (intOf i).toNat)
    case atStart => exact ⟨0, 0, 0, by omega, rfl, rfl, rfl, rfl⟩
    case round =>
      obtain ⟨k, m, V, hk, rfl, rfl, hmV, hf⟩ := hrel
      by_cases hlt : k < s.length
      · have hlt' : (k : Int) < (s.length : Int) := by omega
        have hix := index_bstr s k hlt
        have HB := Lib.hid (fun h => hf.symm.trans (fold_bad16 s k V hlt h))
        have HG := Lib.hid (fun h => (fold_good16 s k V hlt h).symm.trans hf)
        have hbd := byte_bd (s.getD k 0)
        generalize s.getD k 0 = c at *
        clear hf
        by_cases hc : 48 ≤ c.toNat ∧ c.toNat ≤ 57
        · have HN := Lib.hid (HG.out hc)
          have c1 : decide ((c.toNat : Int) < 48) = false := decide_eq_false (by omega)
          have c2 : decide ((57 : Int) < (c.toNat : Int)) = false := decide_eq_false (by omega)
          obtain ⟨m1, hm1⟩ : ∃ m1 : Nat, m1 = m * 10 % 2 ^ 64 := ⟨_, rfl⟩
          obtain ⟨m2, hm2⟩ : ∃ m2 : Nat, m2 = (m1 + c.toNat) % 2 ^ 64 := ⟨_, rfl⟩
          obtain ⟨m3, hm3⟩ : ∃ m3 : Nat, m3 = (V * 10 + (c.toNat - 48)) % 2 ^ 64 := ⟨_, rfl⟩
          have hw1 : IntKind.u64.wrap ((m : Int) * 10) = (m1 : Int) := by rw [IntKind.wrap_u64]; omega
          have hw0 : IntKind.u64.wrap (c.toNat : Int) = (c.toNat : Int) := by rw [IntKind.wrap_u64]; omega
          have hw2 : IntKind.u64.wrap ((m1 : Int) + (c.toNat : Int)) = (m2 : Int) := by rw [IntKind.wrap_u64]; omega
          have hw3 : IntKind.u64.wrap ((m2 : Int) - 48) = (m3 : Int) := by rw [IntKind.wrap_u64]; omega
          have HM3 := Lib.hid hm3
          clear HB HG hc hmV hm1 hm2 hm3
          go_wp2
          go_round
          case rel => exact ⟨k + 1, m3, V * 10 + (c.toNat - 48), by omega, by go_num, rfl, HM3.out, HN.out⟩
          case measure => simp [intOf]; omega
        · have HW := Lib.hid (number_bad s (HB.out hc))
          clear HB HG hmV
          by_cases c1 : c.toNat < 48
          · have c1' : (c.toNat : Int) < 48 := by omega
            clear hc c1
            go_wp2
            go_ret2
            exact ⟨by rw [HW.out]; rfl, Below.refl _ _⟩
          · have c1' : decide ((c.toNat : Int) < 48) = false := decide_eq_false (by omega)
            have c2' : (57 : Int) < (c.toNat : Int) := by omega
            clear hc c1
            go_wp2
            go_ret2
            exact ⟨by rw [HW.out]; rfl, Below.refl _ _⟩
      · obtain rfl : k = s.length := by omega
        have hf0 : foldV 10 0 s = some V := by rw [← hf, List.drop_length]; rfl
        have hval := number_mod s HL.out V hf0
        rw [← hmV] at hval
        have hm64 : m < 2 ^ 64 := by rw [hmV]; exact Nat.mod_lt _ (by decide)
        have hn := Lib.hid (fun w' => rdig16_any m m w' (Nat.le_refl _) hm64)
        have he := bstr_beq (numL 10 m) s
        have HW := Lib.hid hval
        clear hf hf0 hval hmV
        by_cases hs2 : numL 10 m = s
        · have HX := Lib.hid (HW.out.trans (if_pos hs2))
          rw [decide_eq_true hs2] at he
          clear HW hs2
          generalize numL 10 m = X at *
          go_wp2_with (go_at_call 18; refine (hn.out _).mono ?_; rintro e w1 ⟨rfl, hb1⟩)
          go_ret2
          exact ⟨by rw [HX.out]; rfl, hb1⟩
        · have HX := Lib.hid (HW.out.trans (if_neg hs2))
          rw [decide_eq_false hs2] at he
          clear HW hs2
          generalize numL 10 m = X at *
          go_wp2_with (go_at_call 18; refine (hn.out _).mono ?_; rintro e w1 ⟨rfl, hb1⟩)
          go_ret2
          exact ⟨by rw [HX.out]; rfl, hb1⟩
end Go.Proofs.YtbngnmhbnhpbeaaDoor
