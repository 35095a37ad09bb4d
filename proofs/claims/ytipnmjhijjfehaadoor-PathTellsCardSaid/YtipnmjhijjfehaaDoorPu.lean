/- LAYER 14: package path's Under. -/
import Derived.Test.YtipnmjhijjfehaaDoorPq
namespace Go.Proofs.YtipnmjhijjfehaaDoor
set_option maxRecDepth 100000
open Go Go.RowKit

theorem bstr_map_inj (xs ys : List (List UInt8)) : decide (xs.map bstr = ys.map bstr) = decide (xs = ys) := by
  rw [decide_eq_decide]
  constructor
  · intro h
    induction xs generalizing ys with
    | nil => cases ys with
      | nil => rfl
      | cons y ys => cases h
    | cons x xs ih => cases ys with
      | nil => cases h
      | cons y ys =>
        rw [List.map_cons, List.map_cons] at h
        injection h with h1 h2
        rw [bstr_inj h1, ih ys h2]
  · rintro rfl; rfl
theorem getD_bstr (xs : List (List UInt8)) (j : Nat) (h : j < xs.length) : (xs.map bstr).getD j ByteArray.empty = bstr (xs.getD j []) := by
  rw [List.getD_eq_getElem?_getD, List.getElem?_map, List.getD_eq_getElem?_getD, List.getElem?_eq_getElem h]; rfl
theorem sequal_any (xs ys : List (List UInt8)) (hx : xs.length ≤ 1000000) (hy : ys.length ≤ 1000000) (A B : Option Addr) (c d : Nat) (w : World) (hs : Sl w A c (strsV xs)) (ht : Sl w B d (strsV ys)) :
    Calls Tryd.prog 21 #[.slice A xs.length c, .slice B ys.length d] w fun e w' => e = .returned (.bool (decide (xs = ys))) ∧ Below w.heap.size w w' := by
  by_cases hl : xs.length = ys.length
  · by_cases h0 : xs.length = 0
    · have e1 := List.length_eq_zero_iff.1 h0
      have e2 := List.length_eq_zero_iff.1 (hl ▸ h0)
      subst e1 e2
      refine (Tryd.slices_Equal_string_empty A B c 0 d w (by decide)).mono ?_
      rintro e w' ⟨rfl, rfl⟩
      exact ⟨rfl, Below.refl _ _⟩
    · obtain ⟨b1, o1, rfl, -, -⟩ := hs.rd.get (i := 0) (by rw [length_strsV]; omega)
      obtain ⟨b2, o2, rfl, -, -⟩ := ht.rd.get (i := 0) (by rw [length_strsV]; omega)
      refine (Tryd.slices_Equal_string b1 o1 xs.length c b2 o2 ys.length d (xs.map bstr) (ys.map bstr) w (by rw [List.length_map]; omega) (by rw [List.length_map]; omega) (by omega) (by omega)
        (fun j hj => by rw [List.length_map] at hj; rw [getD_bstr xs j hj]; exact strs_cell hs j hj) (fun j hj => by rw [List.length_map] at hj; rw [getD_bstr ys j hj]; exact strs_cell ht j hj)).mono ?_
      rintro e w' ⟨rfl, q, rfl⟩
      refine ⟨?_, below_drewN' (Below.refl _ w) q⟩
      rw [List.take_of_length_le (by rw [List.length_map]; omega), List.take_of_length_le (by rw [List.length_map]; omega), bstr_map_inj]
  · refine (Tryd.slices_Equal_string_lens A B xs.length c ys.length d w hl).mono ?_
    rintro e w' ⟨rfl, rfl⟩
    exact ⟨by rw [decide_eq_false (fun h => hl (by rw [h]))], Below.refl _ _⟩
theorem cut_strs' (A : Option Addr) (c m n : Nat) (hA : A = none → c = 0) (hc : n ≤ c) : ∃ A', (∀ w, (Instr.sliceAt 27 (.slice A m c) none (some (.int .i64 (n : Int))) none).run Tryd.prog w = .ok (.slice A' n c) w) ∧ A' = A := by
  refine ⟨A, fun w => ?_, rfl⟩
  cases A with
  | none =>
    obtain rfl := hA rfl
    obtain rfl : n = 0 := by omega
    clear hA hc
    go_simp
  | some a =>
    have h2 : (n : Int) ≤ (c : Int) := by omega
    clear hA hc
    go_simp
set_option maxHeartbeats 4000000 in
theorem punder_any (top p : List UInt8) (ht : top.length ≤ 1000) (hp : p.length ≤ 1000) (w : World) (hE : EnvP w) : Calls Tryd.prog 13 #[.string (bstr top), .string (bstr p)] w fun e w' => e = .returned (.bool (underL top p)) ∧ Below w.heap.size w w' := by
  have hr1 := pright_any top ht w
  have hr2 := fun w' => pright_any p hp w'
  obtain ⟨V, hV⟩ : ∃ V, V = underL top p := ⟨_, rfl⟩
  have HV := Lib.hid (hV.trans (underN_eq top p).symm)
  rw [← hV]
  clear hV
  have tok1 : True := trivial
  cases h1 : rightL top with
  | false =>
    rw [h1] at hr1
    have HR := Lib.hid hr1
    have HW := Lib.hid (show V = false by rw [HV.out]; unfold underN; rw [h1]; rfl)
    clear h1 hr1 hr2 HV
    go_enter Tryd.func13, Tryd.ntmps13
    go_wp2_with (go_at_call 8; refine HR.out.mono ?_; rintro e w1 ⟨rfl, hb1⟩)
    go_ret
    exact ⟨by rw [HW.out]; rfl, hb1⟩
  | true =>
    rw [h1] at hr1
    have HR1 := Lib.hid hr1
    clear hr1
    cases h2 : rightL p with
    | false =>
      rw [h2] at hr2
      have HR2 := Lib.hid hr2
      have HW := Lib.hid (show V = false by rw [HV.out]; unfold underN; rw [h2, Bool.and_false, Bool.false_and])
      clear h1 h2 hr2 HV
      go_enter Tryd.func13, Tryd.ntmps13
      go_wp2_with (first
        | (go_at_call 8; have _t := tok1; refine HR1.out.mono ?_; rintro e w1 ⟨rfl, hb1⟩; clear tok1 HR1)
        | (go_at_call 8; refine (HR2.out _).mono ?_; rintro e w2 ⟨rfl, hb2⟩))
      go_ret
      exact ⟨by rw [HW.out]; rfl, hb1.trans (hb2.mono hb1.size)⟩
    | true =>
      rw [h2] at hr2
      have HR2 := Lib.hid hr2
      have HW := Lib.hid (show V = (decide ((namesL top).length ≤ (namesL p).length) && decide (namesL top = (namesL p).take (namesL top).length)) by rw [HV.out]; unfold underN; rw [h1, h2]; rfl)
      have hn1 := Lib.hid (fun w' h => pnames_any top ht w' h)
      have hn2 := Lib.hid (fun w' h => pnames_any p hp w' h)
      have l1 := names_sum top
      have l2 := names_sum p
      clear h1 h2 hr2 HV
      generalize namesL top = xs at *
      generalize namesL p = ys at *
      have tok2 : True := trivial
      by_cases hle : xs.length ≤ ys.length
      · have hle' : (xs.length : Int) ≤ (ys.length : Int) := by omega
        have HX := Lib.hid (show V = decide (xs = ys.take xs.length) by rw [HW.out, decide_eq_true hle, Bool.true_and])
        have hyl : (ys.take xs.length).length = xs.length := by rw [List.length_take]; omega
        have HYL := Lib.hid hyl
        clear HW hle
        go_enter Tryd.func13, Tryd.ntmps13
        go_wp2_with (first
          | (go_at_call 8; have _t := tok1; refine HR1.out.mono ?_; rintro e w1 ⟨rfl, hb1⟩; clear tok1 HR1)
          | (go_at_call 8; refine (HR2.out _).mono ?_; rintro e w2 ⟨rfl, hb2⟩; have hb2 := hb1.trans (hb2.mono hb1.size); have hE2 := hE.next hb2)
          | (go_at_call 11; have _t := tok2; refine (hn1.out _ hE2).mono ?_; rintro e w3 ⟨A, c, rfl, hs3, hb3⟩; have hE3 := hE2.next hb3; have hb3 := hb2.trans (hb3.mono hb2.size); clear tok2)
          | (go_at_call 11; refine (hn2.out _ hE3).mono ?_; rintro e w4 ⟨B, d, rfl, hs4, hb4⟩; have hs3 := hs3.later (Nat.le_refl _) hb4; have hb4 := hb3.trans (hb4.mono hb3.size); refine Hid.out ?_))
        refine Lib.hid ?_
        have htk : Sl w4 B d (strsV (ys.take xs.length)) := by rw [strsV_take]; exact hs4.take
        have heq := sequal_any xs (ys.take xs.length) (by omega) (by omega) A B c d w4 hs3 htk
        rw [HYL.out] at heq
        have hroom := hs4.room
        rw [length_strsV] at hroom
        obtain ⟨B', hct, hB'⟩ := cut_strs' B d ys.length xs.length (fun h => hs4.bare h) (by omega)
        subst hB'
        have HQ := Lib.hid heq
        clear heq htk hroom hyl
        generalize decide (xs = ys.take xs.length) = D at *
        generalize xs.length = n at *
        generalize ys.length = m at *
        go_wp2_with (go_at_call 21; refine HQ.out.mono ?_; rintro e w5 ⟨rfl, hb5⟩)
        go_ret
        exact ⟨by rw [HX.out]; rfl, hb4.trans (hb5.mono hb4.size)⟩
      · have hle' : (ys.length : Int) < (xs.length : Int) := by omega
        have HX := Lib.hid (show V = false by rw [HW.out, decide_eq_false hle, Bool.false_and])
        clear HW hle
        go_enter Tryd.func13, Tryd.ntmps13
        go_wp2_with (first
          | (go_at_call 8; have _t := tok1; refine HR1.out.mono ?_; rintro e w1 ⟨rfl, hb1⟩; clear tok1 HR1)
          | (go_at_call 8; refine (HR2.out _).mono ?_; rintro e w2 ⟨rfl, hb2⟩; have hb2 := hb1.trans (hb2.mono hb1.size); have hE2 := hE.next hb2)
          | (go_at_call 11; have _t := tok2; refine (hn1.out _ hE2).mono ?_; rintro e w3 ⟨A, c, rfl, hs3, hb3⟩; have hE3 := hE2.next hb3; have hb3 := hb2.trans (hb3.mono hb2.size); clear tok2)
          | (go_at_call 11; refine (hn2.out _ hE3).mono ?_; rintro e w4 ⟨B, d, rfl, hs4, hb4⟩; have hb4 := hb3.trans (hb4.mono hb3.size)))
        go_ret
        exact ⟨by rw [HX.out]; rfl, hb4⟩
end Go.Proofs.YtipnmjhijjfehaaDoor
