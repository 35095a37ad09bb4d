/- LAYER 16: package lex: Words. -/
import Derived.Test.YtbngnmhbnhpbeaaDoorXb
import Derived.Lib.SlicesS
namespace Go.Proofs.YtbngnmhbnhpbeaaDoor
set_option maxRecDepth 100000
open Go Go.RowKit Go.Lib

theorem xsplit_any (s : List UInt8) (hs : s.length ≤ 100000) (w : World) (hE : EnvX w) : Calls Tryd.prog 21 #[.string (bstr s), .string ⟨#[32]⟩] w fun e w' => ∃ A c, e = .returned (.slice A (splitL 32 s).length c) ∧ Sl w' A c (strsV (splitL 32 s)) ∧ Below w.heap.size w w' := by
  obtain ⟨m, hm⟩ := hE
  refine (Tryd.strings_Split (bstr s) (bstr [32]) m w (by rw [size_bstr]; omega) hm (Nat.le_refl 1)).mono ?_
  rintro e w' ⟨rfl, rfl⟩
  rw [split_sign 32 s, split_count 32 s]
  refine ⟨_, _, rfl, sl_made (t := 9) (strsV (splitL 32 s)) ?_ _ (length_strsV _), (Below.refl _ w).alloc (Nat.le_refl _) _⟩
  unfold strsV
  rw [List.map_map]; rfl
theorem getD_bstr16 (xs : List (List UInt8)) (j : Nat) (h : j < xs.length) : (xs.map bstr).getD j ByteArray.empty = bstr (xs.getD j []) := by
  rw [List.getD_eq_getElem?_getD, List.getElem?_map, List.getD_eq_getElem?_getD, List.getElem?_eq_getElem h]; rfl
theorem holds_empty (xs : List (List UInt8)) : Lib.containsS (xs.map bstr) ⟨#[]⟩ = !xs.all (fun p => decide (p ≠ [])) := by
  rw [Bool.eq_iff_iff, Lib.containsS_iff, Bool.not_eq_true', List.all_eq_false, List.mem_map]
  constructor
  · rintro ⟨p, hp, he⟩
    refine ⟨p, hp, ?_⟩
    have : p = [] := bstr_inj he
    simp [this]
  · rintro ⟨p, hp, he⟩
    refine ⟨p, hp, ?_⟩
    have : p = [] := by simpa using he
    rw [this]; rfl
theorem xcontains_any (xs : List (List UInt8)) (hx : xs.length ≤ 1000000) (A : Option Addr) (c : Nat) (w : World) (hs : Sl w A c (strsV xs)) :
    Calls Tryd.prog 22 #[.slice A xs.length c, .string ⟨#[]⟩] w fun e w' => e = .returned (.bool (!xs.all (fun p => decide (p ≠ [])))) ∧ w' = w := by
  by_cases h0 : xs.length = 0
  · have e1 := List.length_eq_zero_iff.1 h0
    subst e1
    exact Tryd.slices_Contains_string_empty A c ⟨#[]⟩ w
  · obtain ⟨b1, o1, rfl, -, -⟩ := hs.rd.get (i := 0) (by rw [length_strsV]; omega)
    refine (Tryd.slices_Contains_string b1 o1 xs.length c (xs.map bstr) ⟨#[]⟩ w (by rw [List.length_map]; omega) (by omega) (fun j hj => by rw [List.length_map] at hj; rw [getD_bstr16 xs j hj]; exact strs_cell hs j hj)).mono ?_
    rintro e w' ⟨rfl, rfl⟩
    rw [List.take_of_length_le (by rw [List.length_map]; omega), holds_empty]
    exact ⟨rfl, rfl⟩
set_option maxHeartbeats 2000000 in
theorem xwords_any (s : List UInt8) (hs : s.length ≤ 2100) (w : World) (hE : EnvX w) : Calls Tryd.prog 7 #[.string (bstr s)] w (GaveRow (wordsL s) w) := by
  have hz := size_bstr s
  have hcf := fun W => Tryd.strings_ContainsFunc_grows 19 #[] (enters_of Tryd.func19 (by kernel_rfl) rfl) (strangeX 32 126) (bstr s) W (fun W' x _ _ => strangeW_any x W')
  rw [idx_ink] at hcf
  have hsp := Lib.hid (fun w' h => xsplit_any s (by omega) w' h)
  have hlen := splitL_len 32 s
  have hco := Lib.hid (fun A c w' h => xcontains_any (splitL 32 s) (by omega) A c w' h)
  have e0 := bstr_empty s
  by_cases h0 : s = []
  · have HW := Lib.hid (show wordsL s = some [] by rw [h0]; rfl)
    rw [decide_eq_true h0] at e0
    clear h0 hcf hsp hco hlen hs
    generalize wordsL s = V at *
    go_enter Tryd.func7, Tryd.ntmps7
    go_wp2
    go_ret2
    exact ⟨none, 0, by rw [HW.out]; rfl, by rw [HW.out]; exact sl_none16 w, Below.refl _ _⟩
  rw [decide_eq_false h0] at e0
  by_cases h2 : 512 < s.length
  · have HW := Lib.hid (words_far s h0 h2)
    have a2 : (512 : Int) < (s.length : Int) := by omega
    clear h0 h2 hcf hsp hco hlen
    generalize wordsL s = V at *
    go_enter Tryd.func7, Tryd.ntmps7
    go_wp2
    go_ret2
    exact ⟨none, 0, by rw [HW.out]; rfl, by rw [HW.out]; exact sl_none16 w, Below.refl _ _⟩
  have a2 : decide ((512 : Int) < (s.length : Int)) = false := decide_eq_false (by omega)
  cases hi : s.all inkB with
  | false =>
    have HW := Lib.hid (words_ink s h0 hi)
    rw [hi] at hcf
    have HC := Lib.hid hcf
    clear h0 h2 hcf hi hsp hco hlen
    generalize wordsL s = V at *
    go_enter Tryd.func7, Tryd.ntmps7
    go_wp2_with (go_at_call 20; refine (HC.out _).mono ?_; rintro e w1 ⟨rfl, hb1⟩)
    go_ret2
    exact ⟨none, 0, by rw [HW.out]; rfl, by rw [HW.out]; exact sl_none16 w1, hb1⟩
  | true =>
    have HV := Lib.hid (words_split s h0 (by omega) hi)
    rw [hi] at hcf
    have HC := Lib.hid hcf
    clear h0 h2 hcf hi hlen
    generalize wordsL s = V at *
    generalize splitL 32 s = ps at *
    cases ha : ps.all (fun p => decide (p ≠ [])) with
    | false =>
      have HW := Lib.hid (HV.out.trans (if_neg (by rw [ha]; decide)))
      rw [ha] at hco
      clear HV ha
      go_enter Tryd.func7, Tryd.ntmps7
      go_wp2_with (first
        | (go_at_call 20; refine (HC.out _).mono ?_; rintro e w1 ⟨rfl, hb1⟩)
        | (go_at_call 21; refine (hsp.out _ (hE.next hb1)).mono ?_; rintro e w2 ⟨A, c, rfl, hsl, hb2⟩; have hb2 := hb1.trans (hb2.mono hb1.size))
        | (go_at_call 22; refine (hco.out A c _ hsl).mono ?_; rintro e w3 ⟨rfl, rfl⟩))
      go_ret2
      exact ⟨none, 0, by rw [HW.out]; rfl, by rw [HW.out]; exact sl_none16 _, hb2⟩
    | true =>
      have HW := Lib.hid (HV.out.trans (if_pos ha))
      rw [ha] at hco
      clear HV ha
      go_enter Tryd.func7, Tryd.ntmps7
      go_wp2_with (first
        | (go_at_call 20; refine (HC.out _).mono ?_; rintro e w1 ⟨rfl, hb1⟩)
        | (go_at_call 21; refine (hsp.out _ (hE.next hb1)).mono ?_; rintro e w2 ⟨A, c, rfl, hsl, hb2⟩; have hb2 := hb1.trans (hb2.mono hb1.size))
        | (go_at_call 22; refine (hco.out A c _ hsl).mono ?_; rintro e w3 ⟨rfl, rfl⟩))
      go_ret2
      exact ⟨A, c, by rw [HW.out]; rfl, by rw [HW.out]; exact hsl, hb2⟩
end Go.Proofs.YtbngnmhbnhpbeaaDoor
