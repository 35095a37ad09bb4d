/- LAYER 14: package path's isName. -/
import Derived.Test.YtipnmjhijjfehaaDoorNm
import Derived.Test.YtipnmjhijjfehaaDoorSs
import Derived.Test.YtipnmjhijjfehaaDoorSh
import Derived.Laws.Runes
import Derived.Laws.RangeAny
namespace Go.Proofs.YtipnmjhijjfehaaDoor
set_option maxRecDepth 100000
open Go Go.RowKit Go.Lib

theorem bstr_is' (l k : List UInt8) : ((bstr l).toList == k) = decide (l = k) := by
  rw [bstr_toList, Bool.eq_iff_iff, beq_iff_eq, decide_eq_true_iff]
/-- May no such rune stand in a name? -/
def strangeN (x : Nat) : Bool := !(decide (97 ≤ x) && decide (x ≤ 122)) && !(decide (65 ≤ x) && decide (x ≤ 90)) && !(decide (48 ≤ x) && decide (x ≤ 57)) && decide (x ≠ 46) && decide (x ≠ 95) && decide (x ≠ 45)
theorem strange_byte (c : UInt8) : strangeN c.toNat = !signB c := by
  unfold strangeN signB
  have e : ∀ d : UInt8, (c == d) = decide (c.toNat = d.toNat) := by
    intro d
    rw [Bool.eq_iff_iff, beq_iff_eq, decide_eq_true_iff]
    exact UInt8.toNat_inj.symm
  rw [e 46, e 95, e 45, show (decide ((97 : UInt8) ≤ c ∧ c ≤ 122)) = (decide (97 ≤ c.toNat) && decide (c.toNat ≤ 122)) from by rw [Bool.decide_and]; rfl,
    show (decide ((65 : UInt8) ≤ c ∧ c ≤ 90)) = (decide (65 ≤ c.toNat) && decide (c.toNat ≤ 90)) from by rw [Bool.decide_and]; rfl,
    show (decide ((48 : UInt8) ≤ c ∧ c ≤ 57)) = (decide (48 ≤ c.toNat) && decide (c.toNat ≤ 57)) from by rw [Bool.decide_and]; rfl]
  show _ = !(_ || decide (c.toNat = 46) || decide (c.toNat = 95) || decide (c.toNat = 45))
  simp only [Bool.not_or, decide_not, Bool.not_and]
theorem strange_high (x : Nat) (h : 128 ≤ x) : strangeN x = true := by
  unfold strangeN
  rw [decide_eq_false (by omega : ¬ x ≤ 122), decide_eq_false (by omega : ¬ x ≤ 90), decide_eq_false (by omega : ¬ x ≤ 57), decide_eq_true (by omega : x ≠ 46), decide_eq_true (by omega : x ≠ 95), decide_eq_true (by omega : x ≠ 45)]
  simp
theorem sign_high (c : UInt8) (h : 128 ≤ c.toNat) : signB c = false := by
  have := strange_byte c
  rw [strange_high _ h] at this
  cases hs : signB c with
  | false => rfl
  | true => rw [hs] at this; cases this
theorem all_from (s : List UInt8) (k : Nat) (h : k < s.length) : (s.drop k).all signB = (signB (s[k]) && (s.drop (k + 1)).all signB) := by
  rw [List.drop_eq_getElem_cons h, List.all_cons]
theorem idx_from (s : List UInt8) : ∀ (f pos : Nat), s.length ≤ pos + f → decide (0 ≤ idxFuncFrom strangeN true (bstr s) f pos) = !(s.drop pos).all signB := by
  intro f
  have hz := size_bstr s
  induction f with
  | zero =>
    intro pos h
    rw [List.drop_eq_nil_of_le (by omega)]; rfl
  | succ f ih =>
    intro pos h
    rw [idxFuncFrom]
    by_cases hp : pos < s.length
    · rw [if_pos (by omega), all_from s pos hp]
      have hp' : pos < (bstr s).size := by omega
      have hb : (bstr s)[pos]'hp' = s[pos] := rfl
      by_cases ha : (s[pos]).toNat < 128
      · have e := decode_ascii (bstr s) pos hp' (by rw [hb]; exact ha)
        rw [hb] at e
        rw [e]
        show decide (0 ≤ if strangeN (s[pos]).toNat = true then (pos : Int) else idxFuncFrom strangeN true (bstr s) f (pos + 1)) = _
        rw [strange_byte]
        cases hs : signB s[pos] with
        | false => rw [if_pos (by rfl)]; simp
        | true =>
          rw [if_neg (by simp), ih (pos + 1) (by omega), Bool.true_and]
      · have e := (decode_high (bstr s) pos hp' (by rw [hb]; omega)).1
        rw [if_pos (strange_high _ e), sign_high _ (by omega)]
        simp
    · rw [if_neg (by omega), List.drop_eq_nil_of_le (by omega)]; rfl
theorem idx_sign (s : List UInt8) : decide (0 ≤ idxFunc strangeN true (bstr s)) = !s.all signB := by
  unfold idxFunc
  exact idx_from s _ 0 (by rw [size_bstr]; omega)
theorem from_any (x : Nat) (a b : Int) (B : Nat) (w : World) (hc : w.cell? ⟨B, 0, none⟩ = some (.int .i32 x)) :
    Calls Tryd.prog 34 #[.int .i32 a, .int .i32 b, .pointer (some ⟨B, 0, none⟩)] w fun e w' => e = .returned (.bool (decide (a ≤ (x : Int)) && decide ((x : Int) ≤ b))) ∧ w = w' := by
  by_cases h1 : a ≤ (x : Int)
  · rw [decide_eq_true h1, Bool.true_and]
    go_enter Tryd.func34, Tryd.ntmps34
    go_wp2
    go_ret
    exact ⟨rfl, rfl⟩
  · have h1' : decide (a ≤ (x : Int)) = false := decide_eq_false h1
    rw [h1', Bool.false_and]
    go_enter Tryd.func34, Tryd.ntmps34
    go_wp2
    go_ret
    exact ⟨rfl, rfl⟩
theorem cast_range (x a b : Nat) : (decide ((a : Int) ≤ (x : Int)) && decide ((x : Int) ≤ (b : Int))) = (decide (a ≤ x) && decide (x ≤ b)) := by
  rw [show decide ((a : Int) ≤ (x : Int)) = decide (a ≤ x) from decide_eq_decide.2 (by omega), show decide ((x : Int) ≤ (b : Int)) = decide (x ≤ b) from decide_eq_decide.2 (by omega)]
set_option maxHeartbeats 2000000 in
theorem strange_any (x : Nat) (w : World) :
    Calls Tryd.prog 33 #[.int .i32 x] w fun e w' => e = .returned (.bool (strangeN x)) ∧ Below w.heap.size w w' := by
  have HV := Lib.hid (show strangeN x = (!(decide (97 ≤ x) && decide (x ≤ 122)) && !(decide (65 ≤ x) && decide (x ≤ 90)) && !(decide (48 ≤ x) && decide (x ≤ 57)) && decide (x ≠ 46) && decide (x ≠ 95) && decide (x ≠ 45)) from rfl)
  generalize strangeN x = V at *
  have c1 := fun W hc => cast_range x 97 122 ▸ from_any x 97 122 w.heap.size W hc
  have c2 := fun W hc => cast_range x 65 90 ▸ from_any x 65 90 w.heap.size W hc
  have c3 := fun W hc => cast_range x 48 57 ▸ from_any x 48 57 w.heap.size W hc
  have hcell : (w.alloc (.cells #[.int .i32 (x : Int)] 21)).cell? ⟨w.heap.size, 0, none⟩ = some (.int .i32 (x : Int)) := (Row.new w 21 [.int .i32 (x : Int)]).cell 0
  replace c1 := c1 _ hcell
  replace c2 := c2 _ hcell
  replace c3 := c3 _ hcell
  generalize (decide (97 ≤ x) && decide (x ≤ 122)) = b1 at *
  generalize (decide (65 ≤ x) && decide (x ≤ 90)) = b2 at *
  generalize (decide (48 ≤ x) && decide (x ≤ 57)) = b3 at *
  have C1 := Lib.hid c1
  have C2 := Lib.hid c2
  have C3 := Lib.hid c3
  clear c1 c2 c3
  have hb : Below w.heap.size w (w.alloc (.cells #[.int .i32 (x : Int)] 21)) := (Below.refl _ w).alloc (Nat.le_refl _) _
  have tok1 : True := trivial
  have tok2 : True := trivial
  cases b1 with
  | true =>
    have HW := Lib.hid (show V = false by rw [HV.out]; rfl)
    clear HV
    go_enter Tryd.func33, Tryd.ntmps33
    go_wp2_with (go_at_call 34; have _t := tok1; refine C1.out.mono ?_; rintro e w' ⟨rfl, rfl⟩; clear tok1)
    go_ret
    exact ⟨by rw [HW.out]; rfl, hb⟩
  | false =>
    cases b2 with
    | true =>
      have HW := Lib.hid (show V = false by rw [HV.out]; rfl)
      clear HV
      go_enter Tryd.func33, Tryd.ntmps33
      go_wp2_with (first
        | (go_at_call 34; have _t := tok1; refine C1.out.mono ?_; rintro e w' ⟨rfl, rfl⟩; clear tok1)
        | (go_at_call 34; have _t := tok2; refine C2.out.mono ?_; rintro e w' ⟨rfl, rfl⟩; clear tok2))
      go_ret
      exact ⟨by rw [HW.out]; rfl, hb⟩
    | false =>
      cases b3 with
      | true =>
        have HW := Lib.hid (show V = false by rw [HV.out]; rfl)
        clear HV
        go_enter Tryd.func33, Tryd.ntmps33
        go_wp2_with (first
          | (go_at_call 34; have _t := tok1; refine C1.out.mono ?_; rintro e w' ⟨rfl, rfl⟩; clear tok1)
          | (go_at_call 34; have _t := tok2; refine C2.out.mono ?_; rintro e w' ⟨rfl, rfl⟩; clear tok2)
          | (go_at_call 34; refine C3.out.mono ?_; rintro e w' ⟨rfl, rfl⟩))
        go_ret
        exact ⟨by rw [HW.out]; rfl, hb⟩
      | false =>
        have HW := Lib.hid (show V = (decide (x ≠ 46) && decide (x ≠ 95) && decide (x ≠ 45)) by rw [HV.out]; rfl)
        have n1 : ((x : Int) != 46) = decide (x ≠ 46) := by rw [Bool.eq_iff_iff, bne_iff_ne, decide_eq_true_iff]; omega
        have n2 : ((x : Int) != 95) = decide (x ≠ 95) := by rw [Bool.eq_iff_iff, bne_iff_ne, decide_eq_true_iff]; omega
        have n3 : ((x : Int) != 45) = decide (x ≠ 45) := by rw [Bool.eq_iff_iff, bne_iff_ne, decide_eq_true_iff]; omega
        generalize decide (x ≠ 46) = D1 at *
        generalize decide (x ≠ 95) = D2 at *
        generalize decide (x ≠ 45) = D3 at *
        clear HV
        cases D1 with
        | false =>
          have HX := Lib.hid (show V = false by rw [HW.out]; rfl)
          clear HW
          go_enter Tryd.func33, Tryd.ntmps33
          go_wp2_with (first
            | (go_at_call 34; have _t := tok1; refine C1.out.mono ?_; rintro e w' ⟨rfl, rfl⟩; clear tok1)
            | (go_at_call 34; have _t := tok2; refine C2.out.mono ?_; rintro e w' ⟨rfl, rfl⟩; clear tok2)
            | (go_at_call 34; refine C3.out.mono ?_; rintro e w' ⟨rfl, rfl⟩))
          go_ret
          exact ⟨by rw [HX.out]; rfl, hb⟩
        | true =>
          cases D2 with
          | false =>
            have HX := Lib.hid (show V = false by rw [HW.out]; rfl)
            clear HW
            go_enter Tryd.func33, Tryd.ntmps33
            go_wp2_with (first
              | (go_at_call 34; have _t := tok1; refine C1.out.mono ?_; rintro e w' ⟨rfl, rfl⟩; clear tok1)
              | (go_at_call 34; have _t := tok2; refine C2.out.mono ?_; rintro e w' ⟨rfl, rfl⟩; clear tok2)
              | (go_at_call 34; refine C3.out.mono ?_; rintro e w' ⟨rfl, rfl⟩))
            go_ret
            exact ⟨by rw [HX.out]; rfl, hb⟩
          | true =>
            have HX := Lib.hid (show V = D3 by rw [HW.out]; rfl)
            clear HW
            go_enter Tryd.func33, Tryd.ntmps33
            go_wp2_with (first
              | (go_at_call 34; have _t := tok1; refine C1.out.mono ?_; rintro e w' ⟨rfl, rfl⟩; clear tok1)
              | (go_at_call 34; have _t := tok2; refine C2.out.mono ?_; rintro e w' ⟨rfl, rfl⟩; clear tok2)
              | (go_at_call 34; refine C3.out.mono ?_; rintro e w' ⟨rfl, rfl⟩))
            go_ret
            exact ⟨by rw [HX.out]; rfl, hb⟩
set_option maxHeartbeats 2000000 in
theorem isname_any (s : List UInt8) (w : World) : Calls Tryd.prog 25 #[.string (bstr s)] w fun e w' => e = .returned (.bool (nameL s)) ∧ Below w.heap.size w w' := by
  have hz := size_bstr s
  have HV := Lib.hid (show nameL s = (decide (1 ≤ s.length) && decide (s.length ≤ 64) && decide (s ≠ [46]) && decide (s ≠ [46, 46]) && s.all signB) from rfl)
  have hcf := fun W => Tryd.strings_ContainsFunc_grows 33 #[] (enters_of Tryd.func33 (by kernel_rfl) rfl) strangeN (bstr s) W (fun W' x _ _ => strange_any x W')
  rw [idx_sign] at hcf
  have HC := Lib.hid hcf
  clear hcf
  generalize nameL s = V at *
  have e0 : (bstr s).toList.isEmpty = decide (s = []) := by rw [bstr_toList]; cases s <;> rfl
  have e1 := bstr_is' s [46]
  have e2 := bstr_is' s [46, 46]
  by_cases h0 : s = []
  · have HW := Lib.hid (show V = false by rw [HV.out, h0]; rfl)
    rw [decide_eq_true h0] at e0
    clear HV h0 e1 e2
    go_enter Tryd.func25, Tryd.ntmps25
    go_wp2
    go_ret
    exact ⟨by rw [HW.out]; rfl, Below.refl _ _⟩
  rw [decide_eq_false h0] at e0
  have hpos : 1 ≤ s.length := List.length_pos_iff.2 h0
  by_cases h2 : 64 < s.length
  · have HW := Lib.hid (show V = false by rw [HV.out, decide_eq_false (by omega : ¬ s.length ≤ 64), Bool.and_false]; rfl)
    have a2 : decide ((s.length : Int) ≤ 64) = false := decide_eq_false (by omega)
    clear HV h0 e1 e2
    go_enter Tryd.func25, Tryd.ntmps25
    go_wp2
    go_ret
    exact ⟨by rw [HW.out]; rfl, Below.refl _ _⟩
  have a2 : (s.length : Int) ≤ 64 := by omega
  by_cases h3 : s = [46]
  · have HW := Lib.hid (show V = false by rw [HV.out, decide_eq_false (fun h => h h3 : ¬ s ≠ [46]), Bool.and_false]; rfl)
    rw [decide_eq_true h3] at e1
    clear HV h0 h3 e2
    go_enter Tryd.func25, Tryd.ntmps25
    go_wp2
    go_ret
    exact ⟨by rw [HW.out]; rfl, Below.refl _ _⟩
  rw [decide_eq_false h3] at e1
  by_cases h4 : s = [46, 46]
  · have HW := Lib.hid (show V = false by rw [HV.out, decide_eq_false (fun h => h h4 : ¬ s ≠ [46, 46]), Bool.and_false]; rfl)
    rw [decide_eq_true h4] at e2
    clear HV h0 h3 h4
    go_enter Tryd.func25, Tryd.ntmps25
    go_wp2
    go_ret
    exact ⟨by rw [HW.out]; rfl, Below.refl _ _⟩
  rw [decide_eq_false h4] at e2
  have HW := Lib.hid (show V = s.all signB by rw [HV.out, decide_eq_true hpos, decide_eq_true (show s.length ≤ 64 by omega), decide_eq_true h3, decide_eq_true h4]; rfl)
  clear HV h0 h2 h3 h4 hpos
  go_enter Tryd.func25, Tryd.ntmps25
  go_wp2_with (go_at_call 35; refine (HC.out _).mono ?_; rintro e w' ⟨rfl, hb⟩)
  go_ret
  exact ⟨by rw [HW.out]; rfl, hb⟩
end Go.Proofs.YtipnmjhijjfehaaDoor
