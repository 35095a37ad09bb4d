/- LAYER 15: the library's ParseUint at base 10 for 53 bits and for 12, ParseInt at base 10 for 12 bits. -/
import Derived.Test.YtimhhnhppnknhaaDoorNu
import Derived.Test.YtimhhnhppnknhaaDoorVd
import Derived.Laws.FloatArith
namespace Go.Proofs.YtimhhnhppnknhaaDoor
set_option maxRecDepth 100000
open Go Go.RowKit

/-- What ParseUint makes of the signs that are left, at base 10, the number of those ahead being n, mx the greatest: the number, and 0; or 2 (not a numeral), or 1 (too large). -/
def pmL (mx : Nat) : Nat → List UInt8 → Nat × Nat
  | n, [] => (n, 0)
  | n, c :: cs => if 10 ≤ dvL c.toNat then (0, 2) else if mx < n * 10 + dvL c.toNat then (mx, 1) else pmL mx (n * 10 + dvL c.toNat) cs
def pmA (mx : Nat) (l : List UInt8) : Nat × Nat := if l = [] then (0, 2) else pmL mx 0 l
theorem pmL_at (mx n k : Nat) (l : List UInt8) (h : k < l.length) : pmL mx n (l.drop k) = if 10 ≤ dvL (l.getD k 0).toNat then (0, 2) else if mx < n * 10 + dvL (l.getD k 0).toNat then (mx, 1) else pmL mx (n * 10 + dvL (l.getD k 0).toNat) (l.drop (k + 1)) := by
  rw [List.drop_eq_getElem_cons h, List.getD_eq_getElem?_getD, List.getElem?_eq_getElem h]; rfl
theorem pmL_code (mx : Nat) (l : List UInt8) : ∀ n, n ≤ mx → (pmL mx n l).1 ≤ mx ∧ ((pmL mx n l).2 = 0 ∨ (pmL mx n l).2 = 1 ∧ (pmL mx n l).1 = mx ∨ (pmL mx n l).2 = 2) := by
  induction l with
  | nil => intro n hn; exact ⟨hn, .inl rfl⟩
  | cons c l ih =>
    intro n hn
    unfold pmL
    split
    · exact ⟨by simp, .inr (.inr rfl)⟩
    · split
      · exact ⟨by simp, .inr (.inl ⟨rfl, rfl⟩)⟩
      · exact ih _ (by omega)
theorem pmA_code (mx : Nat) (l : List UInt8) : (pmA mx l).1 ≤ mx ∧ ((pmA mx l).2 = 0 ∨ (pmA mx l).2 = 1 ∧ (pmA mx l).1 = mx ∨ (pmA mx l).2 = 2) := by
  unfold pmA
  split
  · exact ⟨by simp, .inr (.inr rfl)⟩
  · exact pmL_code mx l 0 (by omega)
theorem dv_hex : ∀ d : Nat, d < 10 → dvL (hexD d).toNat = d := by
  have h : ∀ d : Fin 10, dvL (hexD d.1).toNat = d.1 := by decide
  intro d hd
  exact h ⟨d, hd⟩
theorem foldV_le (s : List UInt8) : ∀ n v, foldV 10 n s = some v → n ≤ v := by
  induction s with
  | nil => intro n v h; cases h; omega
  | cons c s ih =>
    intro n v h
    rw [foldV] at h
    split at h
    · cases h
    · have := ih _ _ h; omega
theorem pm_fold (mx : Nat) (s : List UInt8) : ∀ n v, foldV 10 n s = some v → v ≤ mx → pmL mx n s = (v, 0) := by
  induction s with
  | nil => intro n v h _; cases h; rfl
  | cons c s ih =>
    intro n v h hv
    rw [foldV] at h
    split at h
    · cases h
    · rename_i hd
      have hb := digI_bd 10 c
      have hx := digI_hex 10 c (by omega)
      have e : dvL c.toNat = (digI 10 c).toNat := by rw [← hx, dv_hex _ (by omega), hx]
      have hle := foldV_le _ _ _ h
      rw [pmL, e, if_neg (by omega), if_neg (by omega)]
      exact ih _ _ h hv
theorem pm_num (mx n : Nat) (h : n ≤ mx) : pmA mx (numL 10 n) = (n, 0) := by
  unfold pmA
  rw [if_neg (numL_ne 10 n)]
  exact pm_fold mx _ 0 n (foldV_num 10 (by omega) (by omega) n) h
set_option maxHeartbeats 4000000 in
theorem ipm53_any (l : List UInt8) (hl : l.length ≤ 100000) (w : World) :
    Calls Tryd.prog 53 #[.string (bstr l), .int .i64 10, .int .i64 53] w fun e w' => e = .returned (.tuple #[.int .u64 (pmA 9007199254740991 l).1, errV (pmA 9007199254740991 l).2]) ∧ Below w.heap.size w w' := by
  by_cases h0 : l = []
  · subst h0
    have hne : (bstr []).toList.isEmpty = true := by rw [bstr_toList]; rfl
    go_enter Tryd.func53, Tryd.ntmps53
    go_wp2
    go_ret2
    exact ⟨rfl, Below.refl _ _⟩
  · have hne : (bstr l).toList.isEmpty = false := by
      rw [bstr_toList]
      cases l with
      | nil => exact absurd rfl h0
      | cons _ _ => rfl
    have hP := Lib.hid (show pmA 9007199254740991 l = pmL 9007199254740991 0 (l.drop 0) by unfold pmA; rw [if_neg h0]; rfl)
    have tok1 : True := trivial
    go_enter Tryd.func53, Tryd.ntmps53
    go_wp2_with (have _t := tok1; refine wpList_conv_string rfl (.tmp 98) rfl l rfl ?_; intro A c w1 hs hb; clear tok1)
    generalize hCe : (1844674407370955162 : Int) = C
    have hC : 9007199254740992 ≤ C := by omega
    clear hne hCe
    generalize bstr l = S at *
    go_loopw [12, 13, 101] (fun us n i wr => ∃ k acc : Nat, k ≤ l.length ∧ us = .bool false ∧ i = .int .i64 k ∧ n = .int .u64 acc ∧ acc ≤ 9007199254740991 ∧ pmA 9007199254740991 l = pmL 9007199254740991 acc (l.drop k) ∧ Below w1.heap.size w1 wr) (fun _ _ i _ => l.length - (intOf i).toNat)
    case atStart => exact ⟨0, 0, by omega, rfl, rfl, rfl, by omega, hP.out, Below.refl _ _⟩
    case round =>
      obtain ⟨k, acc, hk, rfl, rfl, rfl, hacc, hpu, hbr⟩ := hrel
      have HP := Lib.hid hpu
      clear hP hpu h0
      have hBe := hb.trans (hbr.mono hb.size)
      by_cases hlt : k < l.length
      · have hlt' : (k : Int) < (l.length : Int) := by omega
        obtain ⟨b', o, hA, -, -⟩ := hs.rd.get (i := k) (by rw [length_byts]; exact hlt)
        have hix := index_bytes A b' o l.length c k hA hlt
        have hce := byte_cell (by rw [hA] at hs; exact hs.later (Nat.le_refl _) hbr) k hlt
        clear hA
        have HQ := Lib.hid (HP.out.trans (pmL_at 9007199254740991 acc k l hlt))
        clear HP
        have hx := (l.getD k 0).toNat_lt
        have hac1 : (acc : Int) < C := by omega
        have hac2 : (acc : Int) ≤ 9007199254740991 := by omega
        generalize (l.getD k 0).toNat = x at *
        have hlow := Lib.hid (fun w' => low_any x hx w')
        have HD := Lib.hid (show dvL x = if 48 ≤ x ∧ x ≤ 57 then x - 48 else if 97 ≤ (x ||| 32) ∧ (x ||| 32) ≤ 122 then (x ||| 32) - 87 else 255 from rfl)
        have hy : x ||| 32 < 256 := Nat.or_lt_two_pow (n := 8) hx (by omega)
        generalize x ||| 32 = y at *
        cases hq : ((x : Int) == 95)
        all_goals
          go_wp2_with (go_at_call 64; refine (hlow.out _).mono ?_; rintro e w' ⟨rfl, rfl⟩)
          all_goals first
            | (go_ret2
               have hs : 10 ≤ dvL x := by rw [HD.out]; (repeat' split) <;> omega
               exact ⟨by rw [HQ.out, if_pos hs]; rfl, hBe⟩)
            | (go_ret2
               have hs : ¬ 10 ≤ dvL x := by rw [HD.out]; (repeat' split) <;> omega
               have ht : 9007199254740991 < acc * 10 + dvL x := by rw [HD.out]; (repeat' split) <;> omega
               exact ⟨by rw [HQ.out, if_neg hs, if_pos ht]; rfl, hBe⟩)
            | (have hs : ¬ 10 ≤ dvL x := by rw [HD.out]; (repeat' split) <;> omega
               have ht : ¬ 9007199254740991 < acc * 10 + dvL x := by rw [HD.out]; (repeat' split) <;> omega
               go_roundw
               case rel => exact ⟨k + 1, acc * 10 + dvL x, by omega, rfl, by go_num, u64_eq (by rw [HD.out]; (repeat' split) <;> omega), by omega, by rw [HQ.out, if_neg hs, if_neg ht], hbr⟩
               case measure => simp [intOf]; omega)
      · obtain rfl : k = l.length := by omega
        rw [List.drop_length] at HP
        go_wp2
        go_ret2
        exact ⟨by rw [HP.out]; rfl, hBe⟩
set_option maxHeartbeats 4000000 in
theorem ipm12_any (l : List UInt8) (hl : l.length ≤ 100000) (w : World) :
    Calls Tryd.prog 53 #[.string (bstr l), .int .i64 10, .int .i64 12] w fun e w' => e = .returned (.tuple #[.int .u64 (pmA 4095 l).1, errV (pmA 4095 l).2]) ∧ Below w.heap.size w w' := by
  by_cases h0 : l = []
  · subst h0
    have hne : (bstr []).toList.isEmpty = true := by rw [bstr_toList]; rfl
    go_enter Tryd.func53, Tryd.ntmps53
    go_wp2
    go_ret2
    exact ⟨rfl, Below.refl _ _⟩
  · have hne : (bstr l).toList.isEmpty = false := by
      rw [bstr_toList]
      cases l with
      | nil => exact absurd rfl h0
      | cons _ _ => rfl
    have hP := Lib.hid (show pmA 4095 l = pmL 4095 0 (l.drop 0) by unfold pmA; rw [if_neg h0]; rfl)
    have tok1 : True := trivial
    go_enter Tryd.func53, Tryd.ntmps53
    go_wp2_with (have _t := tok1; refine wpList_conv_string rfl (.tmp 98) rfl l rfl ?_; intro A c w1 hs hb; clear tok1)
    generalize hCe : (1844674407370955162 : Int) = C
    have hC : 4096 ≤ C := by omega
    clear hne hCe
    generalize bstr l = S at *
    go_loopw [12, 13, 101] (fun us n i wr => ∃ k acc : Nat, k ≤ l.length ∧ us = .bool false ∧ i = .int .i64 k ∧ n = .int .u64 acc ∧ acc ≤ 4095 ∧ pmA 4095 l = pmL 4095 acc (l.drop k) ∧ Below w1.heap.size w1 wr) (fun _ _ i _ => l.length - (intOf i).toNat)
    case atStart => exact ⟨0, 0, by omega, rfl, rfl, rfl, by omega, hP.out, Below.refl _ _⟩
    case round =>
      obtain ⟨k, acc, hk, rfl, rfl, rfl, hacc, hpu, hbr⟩ := hrel
      have HP := Lib.hid hpu
      clear hP hpu h0
      have hBe := hb.trans (hbr.mono hb.size)
      by_cases hlt : k < l.length
      · have hlt' : (k : Int) < (l.length : Int) := by omega
        obtain ⟨b', o, hA, -, -⟩ := hs.rd.get (i := k) (by rw [length_byts]; exact hlt)
        have hix := index_bytes A b' o l.length c k hA hlt
        have hce := byte_cell (by rw [hA] at hs; exact hs.later (Nat.le_refl _) hbr) k hlt
        clear hA
        have HQ := Lib.hid (HP.out.trans (pmL_at 4095 acc k l hlt))
        clear HP
        have hx := (l.getD k 0).toNat_lt
        have hac1 : (acc : Int) < C := by omega
        have hac2 : (acc : Int) ≤ 4095 := by omega
        generalize (l.getD k 0).toNat = x at *
        have hlow := Lib.hid (fun w' => low_any x hx w')
        have HD := Lib.hid (show dvL x = if 48 ≤ x ∧ x ≤ 57 then x - 48 else if 97 ≤ (x ||| 32) ∧ (x ||| 32) ≤ 122 then (x ||| 32) - 87 else 255 from rfl)
        have hy : x ||| 32 < 256 := Nat.or_lt_two_pow (n := 8) hx (by omega)
        generalize x ||| 32 = y at *
        cases hq : ((x : Int) == 95)
        all_goals
          go_wp2_with (go_at_call 64; refine (hlow.out _).mono ?_; rintro e w' ⟨rfl, rfl⟩)
          all_goals first
            | (go_ret2
               have hs : 10 ≤ dvL x := by rw [HD.out]; (repeat' split) <;> omega
               exact ⟨by rw [HQ.out, if_pos hs]; rfl, hBe⟩)
            | (go_ret2
               have hs : ¬ 10 ≤ dvL x := by rw [HD.out]; (repeat' split) <;> omega
               have ht : 4095 < acc * 10 + dvL x := by rw [HD.out]; (repeat' split) <;> omega
               exact ⟨by rw [HQ.out, if_neg hs, if_pos ht]; rfl, hBe⟩)
            | (have hs : ¬ 10 ≤ dvL x := by rw [HD.out]; (repeat' split) <;> omega
               have ht : ¬ 4095 < acc * 10 + dvL x := by rw [HD.out]; (repeat' split) <;> omega
               go_roundw
               case rel => exact ⟨k + 1, acc * 10 + dvL x, by omega, rfl, by go_num, u64_eq (by rw [HD.out]; (repeat' split) <;> omega), by omega, by rw [HQ.out, if_neg hs, if_neg ht], hbr⟩
               case measure => simp [intOf]; omega)
      · obtain rfl : k = l.length := by omega
        rw [List.drop_length] at HP
        go_wp2
        go_ret2
        exact ⟨by rw [HP.out]; rfl, hBe⟩
end Go.Proofs.YtimhhnhppnknhaaDoor
