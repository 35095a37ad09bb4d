/- LAYER 12: internal/strconv.ParseUint of a text at base 10 and 16, for sixteen bits. -/
import Derived.Test.YtpmibdgghojgaaaDoorAd3
namespace Go.Proofs.YtpmibdgghojgaaaDoor
set_option maxRecDepth 100000
open Go Go.RowKit

/-- A sign's number as a digit, whatever the base; 255: it is none. -/
def dvL (x : Nat) : Nat := if 48 ≤ x ∧ x ≤ 57 then x - 48 else if 97 ≤ (x ||| 32) ∧ (x ||| 32) ≤ 122 then (x ||| 32) - 87 else 255
/-- What ParseUint makes of the signs that are left, the number of those ahead being n: the number, and 0; or 2 (not a numeral), or 1 (too large). -/
def puL (b : Nat) : Nat → List UInt8 → Nat × Nat
  | n, [] => (n, 0)
  | n, c :: cs => if b ≤ dvL c.toNat then (0, 2) else if 65535 < n * b + dvL c.toNat then (65535, 1) else puL b (n * b + dvL c.toNat) cs
def puA (b : Nat) (l : List UInt8) : Nat × Nat := if l = [] then (0, 2) else puL b 0 l
def errV (k : Nat) : Value := if k = 0 then .nilIface else .iface 93 (.int .i64 (k : Int))
theorem puL_at (b n k : Nat) (l : List UInt8) (h : k < l.length) : puL b n (l.drop k) = if b ≤ dvL (l.getD k 0).toNat then (0, 2) else if 65535 < n * b + dvL (l.getD k 0).toNat then (65535, 1) else puL b (n * b + dvL (l.getD k 0).toNat) (l.drop (k + 1)) := by
  rw [List.drop_eq_getElem_cons h, List.getD_eq_getElem?_getD, List.getElem?_eq_getElem h]; rfl
theorem or32 (x : Nat) (hx : x < 256) : bits .or .u8 (x : Int) 32 = ((x ||| 32 : Nat) : Int) := by
  show IntKind.u8.wrap ((BitVec.ofInt 8 (x : Int) ||| BitVec.ofInt 8 32).toNat : Int) = _
  rw [BitVec.ofInt_natCast, BitVec.toNat_or, BitVec.toNat_ofNat, Nat.mod_eq_of_lt (by omega), show (BitVec.ofInt 8 32).toNat = 32 by decide, IntKind.wrap_u8]
  have : x ||| 32 < 2 ^ 8 := Nat.or_lt_two_pow (by omega) (by omega)
  omega
theorem byte_cell {w : World} {b o c : Nat} {l : List UInt8} (h : Sl w (some ⟨b, o, none⟩) c (byts l)) (k : Nat) (hk : k < l.length) : w.cell? ⟨b, o + k, none⟩ = some (.int .u8 ((l.getD k 0).toNat : Int)) := by
  obtain ⟨b', o', hA, _, hc⟩ := h.rd.get (i := k) (by rw [length_byts]; exact hk)
  cases hA
  rw [hc, get_byts _ _ hk]
theorem low_any (x : Nat) (hx : x < 256) (w : World) : Calls Tryd.prog 56 #[.int .u8 (x : Int)] w fun e w' => e = .returned (.int .u8 ((x ||| 32 : Nat) : Int)) ∧ w = w' := by
  refine (Tryd.internal_strconv_lower (x : Int) w).mono ?_
  rintro e w' ⟨rfl, rfl⟩
  exact ⟨by rw [or32 x hx], rfl⟩
theorem u64_eq {a b : Int} (h : a = b) : Value.int .u64 a = .int .u64 b := by rw [h]
set_option maxHeartbeats 4000000 in
theorem ipu_any (b : Nat) (hb : b = 10 ∨ b = 16) (l : List UInt8) (hl : l.length ≤ 100000) (w : World) :
    Calls Tryd.prog 42 #[.string (bstr l), .int .i64 b, .int .i64 16] w fun e w' => e = .returned (.tuple #[.int .u64 (puA b l).1, errV (puA b l).2]) ∧ Below w.heap.size w w' := by
  by_cases h0 : l = []
  · subst h0
    have hne : (bstr []).toList.isEmpty = true := by rw [bstr_toList]; rfl
    go_enter Tryd.func42, Tryd.ntmps42
    go_wp2
    go_ret2
    exact ⟨rfl, Below.refl _ _⟩
  · have hne : (bstr l).toList.isEmpty = false := by
      rw [bstr_toList]
      cases l with
      | nil => exact absurd rfl h0
      | cons _ _ => rfl
    have hP := Lib.hid (show puA b l = puL b 0 (l.drop 0) by unfold puA; rw [if_neg h0]; rfl)
    have tok1 : True := trivial
    rcases hb with rfl | rfl
    · go_enter Tryd.func42, Tryd.ntmps42
      go_wp2_with (have _t := tok1; refine wpList_conv_string rfl (.tmp 98) rfl l rfl ?_; intro A c w1 hs hb; clear tok1)
      generalize hCe : (1844674407370955162 : Int) = C
      have hC : 65536 ≤ C := by omega
      clear hne hCe
      generalize bstr l = S at *
      go_loopw [12, 13, 101] (fun us n i wr => ∃ k acc : Nat, k ≤ l.length ∧ us = .bool false ∧ i = .int .i64 k ∧ n = .int .u64 acc ∧ acc ≤ 65535 ∧ puA 10 l = puL 10 acc (l.drop k) ∧ Below w1.heap.size w1 wr) (fun _ _ i _ => l.length - (intOf i).toNat)
      case atStart => exact ⟨0, 0, by omega, rfl, rfl, rfl, by omega, hP.out, Below.refl _ _⟩
      case round =>
        obtain ⟨k, acc, hk, rfl, rfl, rfl, hacc, hpu, hbr⟩ := hrel
        have HP := Lib.hid hpu
        clear hP hpu h0
        have hBe := hb.trans (hbr.mono hb.size)
        by_cases hlt : k < l.length
        · have hlt' : (k : Int) < (l.length : Int) := by omega
          obtain ⟨b', o, hA, -, -⟩ := hs.rd.get (i := k) (by rw [length_byts]; exact hlt)
          have hix := index_bytes A b' o l.length c k hA hlt
          have hce := byte_cell (by rw [hA] at hs; exact hs.later (Nat.le_refl _) hbr) k hlt
          clear hA
          have HQ := Lib.hid (HP.out.trans (puL_at 10 acc k l hlt))
          clear HP
          have hx := (l.getD k 0).toNat_lt
          have hac1 : (acc : Int) < C := by omega
          have hac2 : (acc : Int) ≤ 65535 := by omega
          generalize (l.getD k 0).toNat = x at *
          have hlow := Lib.hid (fun w' => low_any x hx w')
          have HD := Lib.hid (show dvL x = if 48 ≤ x ∧ x ≤ 57 then x - 48 else if 97 ≤ (x ||| 32) ∧ (x ||| 32) ≤ 122 then (x ||| 32) - 87 else 255 from rfl)
          have hy : x ||| 32 < 256 := Nat.or_lt_two_pow (n := 8) hx (by omega)
          generalize x ||| 32 = y at *
          cases hq : ((x : Int) == 95)
          all_goals
            go_wp2_with (go_at_call 56; refine (hlow.out _).mono ?_; rintro e w' ⟨rfl, rfl⟩)
            all_goals first
              | (go_ret2
                 have hs : 10 ≤ dvL x := by rw [HD.out]; (repeat' split) <;> omega
                 exact ⟨by rw [HQ.out, if_pos hs]; rfl, hBe⟩)
              | (go_ret2
                 have hs : ¬ 10 ≤ dvL x := by rw [HD.out]; (repeat' split) <;> omega
                 have ht : 65535 < acc * 10 + dvL x := by rw [HD.out]; (repeat' split) <;> omega
                 exact ⟨by rw [HQ.out, if_neg hs, if_pos ht]; rfl, hBe⟩)
              | (have hs : ¬ 10 ≤ dvL x := by rw [HD.out]; (repeat' split) <;> omega
                 have ht : ¬ 65535 < acc * 10 + dvL x := by rw [HD.out]; (repeat' split) <;> omega
                 go_roundw
                 case rel => exact ⟨k + 1, acc * 10 + dvL x, by omega, rfl, by go_num, u64_eq (by rw [HD.out]; (repeat' split) <;> omega), by omega, by rw [HQ.out, if_neg hs, if_neg ht], hbr⟩
                 case measure => simp [intOf]; omega)
        · obtain rfl : k = l.length := by omega
          rw [List.drop_length] at HP
          go_wp2
          go_ret2
          exact ⟨by rw [HP.out]; rfl, hBe⟩
    · go_enter Tryd.func42, Tryd.ntmps42
      go_wp2_with (have _t := tok1; refine wpList_conv_string rfl (.tmp 98) rfl l rfl ?_; intro A c w1 hs hb; clear tok1)
      generalize hCe : (1152921504606846976 : Int) = C
      have hC : 65536 ≤ C := by omega
      clear hne hCe
      generalize bstr l = S at *
      go_loopw [12, 13, 101] (fun us n i wr => ∃ k acc : Nat, k ≤ l.length ∧ us = .bool false ∧ i = .int .i64 k ∧ n = .int .u64 acc ∧ acc ≤ 65535 ∧ puA 16 l = puL 16 acc (l.drop k) ∧ Below w1.heap.size w1 wr) (fun _ _ i _ => l.length - (intOf i).toNat)
      case atStart => exact ⟨0, 0, by omega, rfl, rfl, rfl, by omega, hP.out, Below.refl _ _⟩
      case round =>
        obtain ⟨k, acc, hk, rfl, rfl, rfl, hacc, hpu, hbr⟩ := hrel
        have HP := Lib.hid hpu
        clear hP hpu h0
        have hBe := hb.trans (hbr.mono hb.size)
        by_cases hlt : k < l.length
        · have hlt' : (k : Int) < (l.length : Int) := by omega
          obtain ⟨b', o, hA, -, -⟩ := hs.rd.get (i := k) (by rw [length_byts]; exact hlt)
          have hix := index_bytes A b' o l.length c k hA hlt
          have hce := byte_cell (by rw [hA] at hs; exact hs.later (Nat.le_refl _) hbr) k hlt
          clear hA
          have HQ := Lib.hid (HP.out.trans (puL_at 16 acc k l hlt))
          clear HP
          have hx := (l.getD k 0).toNat_lt
          have hac1 : (acc : Int) < C := by omega
          have hac2 : (acc : Int) ≤ 65535 := by omega
          generalize (l.getD k 0).toNat = x at *
          have hlow := Lib.hid (fun w' => low_any x hx w')
          have HD := Lib.hid (show dvL x = if 48 ≤ x ∧ x ≤ 57 then x - 48 else if 97 ≤ (x ||| 32) ∧ (x ||| 32) ≤ 122 then (x ||| 32) - 87 else 255 from rfl)
          have hy : x ||| 32 < 256 := Nat.or_lt_two_pow (n := 8) hx (by omega)
          generalize x ||| 32 = y at *
          cases hq : ((x : Int) == 95)
          all_goals
            go_wp2_with (go_at_call 56; refine (hlow.out _).mono ?_; rintro e w' ⟨rfl, rfl⟩)
            all_goals first
              | (go_ret2
                 have hs : 16 ≤ dvL x := by rw [HD.out]; (repeat' split) <;> omega
                 exact ⟨by rw [HQ.out, if_pos hs]; rfl, hBe⟩)
              | (go_ret2
                 have hs : ¬ 16 ≤ dvL x := by rw [HD.out]; (repeat' split) <;> omega
                 have ht : 65535 < acc * 16 + dvL x := by rw [HD.out]; (repeat' split) <;> omega
                 exact ⟨by rw [HQ.out, if_neg hs, if_pos ht]; rfl, hBe⟩)
              | (have hs : ¬ 16 ≤ dvL x := by rw [HD.out]; (repeat' split) <;> omega
                 have ht : ¬ 65535 < acc * 16 + dvL x := by rw [HD.out]; (repeat' split) <;> omega
                 go_roundw
                 case rel => exact ⟨k + 1, acc * 16 + dvL x, by omega, rfl, by go_num, u64_eq (by rw [HD.out]; (repeat' split) <;> omega), by omega, by rw [HQ.out, if_neg hs, if_neg ht], hbr⟩
                 case measure => simp [intOf]; omega)
        · obtain rfl : k = l.length := by omega
          rw [List.drop_length] at HP
          go_wp2
          go_ret2
          exact ⟨by rw [HP.out]; rfl, hBe⟩
end Go.Proofs.YtpmibdgghojgaaaDoor
