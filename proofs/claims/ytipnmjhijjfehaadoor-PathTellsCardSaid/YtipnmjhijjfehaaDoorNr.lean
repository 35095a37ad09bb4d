/- LAYER 14: the document's Right, Names, Under. -/
import Derived.Test.YtipnmjhijjfehaaDoorNp
namespace Go.Proofs.YtipnmjhijjfehaaDoor
set_option maxRecDepth 100000
open Go Go.RowKit

theorem rightL_far (p : List UInt8) (h : 256 < p.length) : rightL p = false := by
  match p, h with
  | c :: r, h =>
    by_cases hc : c = 47
    · subst hc
      show (decide (r = []) || (decide (r.length + 1 ≤ 256) && (splitL 47 r).all nameL)) = false
      rw [List.length_cons] at h
      rw [decide_eq_false (by omega : ¬ r.length + 1 ≤ 256), decide_eq_false (by rintro rfl; simp at h)]; rfl
    · unfold rightL
      split
      · rename_i e; exact absurd (List.cons.inj e).1 hc
      · rfl
theorem rightL_head (p : List UInt8) (h : p.getD 0 0 ≠ 47) : rightL p = false := by
  unfold rightL
  split
  · exact absurd rfl h
  · rfl
theorem rightL_names (r : List UInt8) (h : r ≠ []) (hl : r.length + 1 ≤ 256) : rightL (47 :: r) = (splitL 47 r).all nameL := by
  show (decide (r = []) || (decide (r.length + 1 ≤ 256) && (splitL 47 r).all nameL)) = _
  rw [decide_eq_false h, decide_eq_true hl]; rfl
theorem tail_bstr (x : UInt8) (r : List UInt8) (n : Nat) (h : n = r.length + 1) : (bstr (x :: r)).extract 1 n = bstr r := by
  subst h
  rw [extract_bstr12, List.drop_succ_cons, List.drop_zero, Nat.add_sub_cancel, List.take_length]
theorem alln_at (ps : List (List UInt8)) (k : Nat) (h : k < ps.length) : (ps.drop k).all nameL = (nameL (ps.getD k []) && (ps.drop (k + 1)).all nameL) := by
  rw [List.drop_eq_getElem_cons h, List.all_cons, List.getD_eq_getElem?_getD, List.getElem?_eq_getElem h]; rfl
set_option maxHeartbeats 2000000 in
theorem rright_any (p : List UInt8) (hp : p.length ≤ 1000) (w : World) : Calls Tryd.prog 9 #[.string (bstr p)] w fun e w' => e = .returned (.bool (rightL p)) ∧ Below w.heap.size w w' := by
  have hz := size_bstr p
  obtain ⟨V, hV⟩ : ∃ V, V = rightL p := ⟨_, rfl⟩
  have HV := Lib.hid hV
  rw [← hV]
  clear hV
  have e1 := bstr_is p [47]
  by_cases h1 : p = [47]
  · have HW := Lib.hid (show V = true by rw [HV.out, h1]; rfl)
    rw [decide_eq_true h1] at e1
    clear HV h1
    go_enter Tryd.func9, Tryd.ntmps9
    go_wp2
    go_ret
    exact ⟨by rw [HW.out]; rfl, Below.refl _ _⟩
  rw [decide_eq_false h1] at e1
  by_cases h2 : 256 < p.length
  · have HW := Lib.hid (show V = false by rw [HV.out]; exact rightL_far p h2)
    have a1 : (256 : Int) < (p.length : Int) := by omega
    clear HV h1
    go_enter Tryd.func9, Tryd.ntmps9
    go_wp2
    go_ret
    exact ⟨by rw [HW.out]; rfl, Below.refl _ _⟩
  have a1 : decide ((256 : Int) < (p.length : Int)) = false := decide_eq_false (by omega)
  by_cases h3 : p = []
  · have HW := Lib.hid (show V = false by rw [HV.out, h3]; rfl)
    have a2 : ((p.length : Int) == 0) = true := by rw [h3]; rfl
    clear HV h1 h3
    go_enter Tryd.func9, Tryd.ntmps9
    go_wp2
    go_ret
    exact ⟨by rw [HW.out]; rfl, Below.refl _ _⟩
  have hpos : 0 < p.length := List.length_pos_iff.2 h3
  have a2 : ((p.length : Int) == 0) = false := by rw [beq_eq_false_iff_ne]; omega
  have hix : ∀ w', (Instr.index 9 (.string (bstr p)) (.int .i64 0)).run Tryd.prog w' = .ok (.int .u8 ((p.getD 0 0).toNat : Int)) w' := fun w' => index_bstr p 0 hpos w'
  by_cases h4 : p.getD 0 0 = 47
  · obtain ⟨r, rfl⟩ : ∃ r, p = 47 :: r := by
      cases p with
      | nil => exact absurd rfl h3
      | cons c r => exact ⟨r, by rw [show c = 47 from h4]⟩
    have hr : r ≠ [] := fun h => h1 (by rw [h])
    have hrl : r.length + 1 ≤ 256 := by rw [List.length_cons] at h2; omega
    have HW := Lib.hid (show V = (splitL 47 r).all nameL by rw [HV.out]; exact rightL_names r hr hrl)
    rw [h4] at hix
    have a4 : ((47 : UInt8).toNat : Int) = 47 := rfl
    rw [a4] at hix
    have hex := tail_bstr 47 r (r.length + 1) rfl
    have hcp := Lib.hid (rpieces_any r (by omega) w)
    have hnm := Lib.hid (fun s (h : s ∈ splitL 47 r) w' => rname_any s (by have := splitL_piece 47 r s h; omega) w')
    have hlen := splitL_len 47 r
    generalize bstr (47 :: r) = P at *
    rw [List.length_cons] at hz
    have a1 : decide ((256 : Int) < (r.length : Int) + 1) = false := decide_eq_false (by omega)
    have a2 : ((r.length : Int) + 1 == 0) = false := by rw [beq_eq_false_iff_ne]; omega
    clear HV h1 h2 h3 h4 hr hpos a4 hp
    generalize splitL 47 r = ps at *
    go_enter Tryd.func9, Tryd.ntmps9
    go_wp2_with (go_at_call 18; refine hcp.out.mono ?_; rintro e w1 ⟨v, rfl, hown, hb1⟩; obtain ⟨A, c, rfl, hpl, hsl⟩ := Sl.of_own hown; clear hpl)
    clear a1 a2 e1 hix hex hz hown hcp
    go_loop [24] (fun i => ∃ k : Nat, k ≤ ps.length ∧ i = .int .i64 k ∧ (ps.drop k).all nameL = ps.all nameL) (fun i => ps.length - (intOf i).toNat)
    case atStart => exact ⟨0, by omega, rfl, rfl⟩
    case round =>
      obtain ⟨k, hk, rfl, hf⟩ := hrel
      by_cases hlt : k < ps.length
      · have hlt' : (k : Int) < (ps.length : Int) := by omega
        obtain ⟨b, o, rfl, -, -⟩ := hsl.rd.get (i := k) (by rw [length_strsV]; exact hlt)
        have hix := index_strs (some ⟨b, o, none⟩) b o ps.length c k rfl hlt
        have hce := strs_cell hsl k hlt
        have HA := Lib.hid (alln_at ps k hlt)
        have HF := Lib.hid hf
        have HC := Lib.hid (hnm.out (ps.getD k []) (by rw [List.getD_eq_getElem?_getD, List.getElem?_eq_getElem hlt]; exact List.getElem_mem hlt) w1)
        generalize ps.getD k [] = s at *
        clear hf
        cases hsg : nameL s with
        | true =>
          have HN := Lib.hid (show (ps.drop (k + 1)).all nameL = ps.all nameL by rw [← HF.out, HA.out, hsg, Bool.true_and])
          rw [hsg] at HC
          clear HA hsg
          go_wp2_with (go_at_call 19; refine HC.out.mono ?_; rintro e w' ⟨rfl, rfl⟩)
          go_round
          case rel => exact ⟨k + 1, by omega, by go_num, HN.out⟩
          case measure => simp [intOf]; omega
        | false =>
          have HN := Lib.hid (show V = false by rw [HW.out, ← HF.out, HA.out, hsg, Bool.false_and])
          rw [hsg] at HC
          clear HA hsg
          go_wp2_with (go_at_call 19; refine HC.out.mono ?_; rintro e w' ⟨rfl, rfl⟩)
          go_ret
          exact ⟨by rw [HN.out]; rfl, hb1⟩
      · obtain rfl : k = ps.length := by omega
        have HN := Lib.hid (show V = true by rw [HW.out, ← hf, List.drop_length]; rfl)
        clear hf
        go_wp2
        go_ret
        exact ⟨by rw [HN.out]; rfl, hb1⟩
  · have HW := Lib.hid (show V = false by rw [HV.out]; exact rightL_head p h4)
    have a3 : (((p.getD 0 0).toNat : Int) == 47) = false := by
      rw [beq_eq_false_iff_ne]
      intro h
      exact h4 (UInt8.toNat_inj.1 (by rw [show (47 : UInt8).toNat = 47 from rfl]; omega))
    generalize p.getD 0 0 = y at *
    clear HV h1 h2 h3 h4
    go_enter Tryd.func9, Tryd.ntmps9
    go_wp2
    go_ret
    exact ⟨by rw [HW.out]; rfl, Below.refl _ _⟩
theorem rightL_47 (p : List UInt8) : rightL p = true → p.length ≤ 256 := by
  intro h
  by_cases h2 : 256 < p.length
  · rw [rightL_far p h2] at h; cases h
  · omega
set_option maxHeartbeats 2000000 in
theorem rnames_any (p : List UInt8) (hp : p.length ≤ 1000) (w : World) : Calls Tryd.prog 12 #[.string (bstr p)] w fun e w' => ∃ v, e = .returned v ∧ w'.ownsRow w.heap.size 9 1 v (namesL p).length (strsV (namesL p)) ∧ Below w.heap.size w w' := by
  have hz := size_bstr p
  have hrt := rright_any p hp w
  have e1 := bstr_is p [47]
  cases h : rightL p with
  | false =>
    rw [h] at hrt
    have HN := Lib.hid (namesL_off p (.inl h))
    have HR := Lib.hid hrt
    clear h hrt e1
    go_enter Tryd.func12, Tryd.ntmps12
    go_wp2_with (go_at_call 9; refine HR.out.mono ?_; rintro e w1 ⟨rfl, hb1⟩)
    go_ret
    refine ⟨_, rfl, ?_, hb1.alloc hb1.size _⟩
    rw [HN.out]
    exact World.ownsRow_lit w1 (e := 9) (size := 1) #[] 0 hb1.size (by unfold maxLen; omega) rfl
  | true =>
    rw [h] at hrt
    have HR := Lib.hid hrt
    clear hrt
    by_cases h1 : p = [47]
    · have HN := Lib.hid (namesL_off p (.inr h1))
      rw [decide_eq_true h1] at e1
      clear h h1
      go_enter Tryd.func12, Tryd.ntmps12
      go_wp2_with (go_at_call 9; refine HR.out.mono ?_; rintro e w1 ⟨rfl, hb1⟩)
      go_ret
      refine ⟨_, rfl, ?_, hb1.alloc hb1.size _⟩
      rw [HN.out]
      exact World.ownsRow_lit w1 (e := 9) (size := 1) #[] 0 hb1.size (by unfold maxLen; omega) rfl
    · rw [decide_eq_false h1] at e1
      obtain ⟨r, rfl⟩ := right_head p h
      have HN := Lib.hid (namesL_right _ r h rfl (fun e => h1 (by rw [e])))
      have hex := tail_bstr 47 r (r.length + 1) rfl
      rw [List.length_cons] at hz hp
      have hcp := Lib.hid (fun w' => rpieces_any r (by omega) w')
      generalize bstr (47 :: r) = P at *
      clear h h1
      go_enter Tryd.func12, Tryd.ntmps12
      go_wp2_with (first
        | (go_at_call 9; refine HR.out.mono ?_; rintro e w1 ⟨rfl, hb1⟩)
        | (go_at_call 18; refine (hcp.out _).mono ?_; rintro e w2 ⟨v, rfl, hown, hb2⟩))
      go_ret
      exact ⟨_, rfl, by rw [HN.out]; exact own_base hown hb1.size, hb1.trans (hb2.mono hb1.size)⟩
theorem underL_right (top p : List UInt8) (h1 : rightL top = true) (h2 : rightL p = true) : underL top p = (decide (top = [47]) || decide (p = top) || (decide (top.length < p.length) && decide (p.take top.length = top) && decide (p.getD top.length 0 = 47))) := by
  unfold underL; rw [h1, h2]; rfl
set_option maxHeartbeats 4000000 in
theorem runder_any (top p : List UInt8) (ht : top.length ≤ 1000) (hp : p.length ≤ 1000) (w : World) : Calls Tryd.prog 14 #[.string (bstr top), .string (bstr p)] w fun e w' => e = .returned (.bool (underL top p)) ∧ Below w.heap.size w w' := by
  have hzp := size_bstr p
  have hzt := size_bstr top
  have hr1 := rright_any top ht w
  have hr2 := fun w' => rright_any p hp w'
  obtain ⟨V, hV⟩ : ∃ V, V = underL top p := ⟨_, rfl⟩
  have HV := Lib.hid hV
  rw [← hV]
  clear hV
  cases h1 : rightL top with
  | false =>
    rw [h1] at hr1
    have HR := Lib.hid hr1
    have HW := Lib.hid (show V = false by rw [HV.out]; unfold underL; rw [h1]; rfl)
    clear h1 hr1 hr2 HV
    go_enter Tryd.func14, Tryd.ntmps14
    go_wp2_with (go_at_call 9; refine HR.out.mono ?_; rintro e w1 ⟨rfl, hb1⟩)
    go_ret
    exact ⟨by rw [HW.out]; rfl, hb1⟩
  | true =>
    rw [h1] at hr1
    have HR1 := Lib.hid hr1
    clear hr1
    cases h2 : rightL p with
    | false =>
      rw [h2] at hr2
      have HR2 := Lib.hid hr2
      have HW := Lib.hid (show V = false by rw [HV.out]; unfold underL; rw [h2, Bool.and_false, Bool.false_and])
      have tok := trivial
      clear h1 h2 hr2 HV
      go_enter Tryd.func14, Tryd.ntmps14
      go_wp2_with (first
        | (go_at_call 9; have _t := tok; refine HR1.out.mono ?_; rintro e w1 ⟨rfl, hb1⟩; clear tok HR1)
        | (go_at_call 9; refine (HR2.out _).mono ?_; rintro e w2 ⟨rfl, hb2⟩))
      go_ret
      exact ⟨by rw [HW.out]; rfl, hb1.trans (hb2.mono hb1.size)⟩
    | true =>
      rw [h2] at hr2
      have HR2 := Lib.hid hr2
      have HW := Lib.hid (HV.out.trans (underL_right top p h1 h2))
      clear h1 h2 hr2 HV
      have e1 := bstr_is top [47]
      have tok := trivial
      by_cases c1 : top = [47]
      · have HX := Lib.hid (show V = true by rw [HW.out, decide_eq_true c1]; rfl)
        rw [decide_eq_true c1] at e1
        clear HW c1
        go_enter Tryd.func14, Tryd.ntmps14
        go_wp2_with (first
          | (go_at_call 9; have _t := tok; refine HR1.out.mono ?_; rintro e w1 ⟨rfl, hb1⟩; clear tok HR1)
          | (go_at_call 9; refine (HR2.out _).mono ?_; rintro e w2 ⟨rfl, hb2⟩))
        go_ret
        exact ⟨by rw [HX.out]; rfl, hb1.trans (hb2.mono hb1.size)⟩
      rw [decide_eq_false c1] at e1 HW
      have e2 := bstr_beq p top
      by_cases c2 : p = top
      · have HX := Lib.hid (show V = true by rw [HW.out, decide_eq_true c2]; rfl)
        rw [decide_eq_true c2] at e2
        clear HW c1 c2
        go_enter Tryd.func14, Tryd.ntmps14
        go_wp2_with (first
          | (go_at_call 9; have _t := tok; refine HR1.out.mono ?_; rintro e w1 ⟨rfl, hb1⟩; clear tok HR1)
          | (go_at_call 9; refine (HR2.out _).mono ?_; rintro e w2 ⟨rfl, hb2⟩))
        go_ret
        exact ⟨by rw [HX.out]; rfl, hb1.trans (hb2.mono hb1.size)⟩
      rw [decide_eq_false c2] at e2 HW
      by_cases c3 : top.length < p.length
      · have a3 : (top.length : Int) < (p.length : Int) := by omega
        rw [decide_eq_true c3] at HW
        have hex := extract_bstr12 p 0 top.length
        rw [List.drop_zero, Nat.sub_zero] at hex
        have hix := index_bstr p top.length c3
        have e3 := bstr_beq (p.take top.length) top
        have HD := Lib.hid (show V = (decide (p.take top.length = top) && decide (p.getD top.length 0 = 47)) by rw [HW.out]; rfl)
        generalize p.take top.length = q at *
        generalize p.getD top.length 0 = y at *
        clear HW c1 c2 c3
        have e4 : ((y.toNat : Int) == 47) = decide (y = 47) := by
          rw [Bool.eq_iff_iff, beq_iff_eq, decide_eq_true_iff, ← UInt8.toNat_inj, show (47 : UInt8).toNat = 47 from rfl]
          omega
        generalize bstr q = Q at *
        generalize decide (q = top) = D1 at *
        generalize decide (y = 47) = D2 at *
        cases D1 with
        | false =>
          have HX := Lib.hid (show V = false by rw [HD.out]; rfl)
          clear HD
          go_enter Tryd.func14, Tryd.ntmps14
          go_wp2_with (first
            | (go_at_call 9; have _t := tok; refine HR1.out.mono ?_; rintro e w1 ⟨rfl, hb1⟩; clear tok HR1)
            | (go_at_call 9; refine (HR2.out _).mono ?_; rintro e w2 ⟨rfl, hb2⟩))
          go_ret
          exact ⟨by rw [HX.out]; rfl, hb1.trans (hb2.mono hb1.size)⟩
        | true =>
          have HX := Lib.hid (show V = D2 by rw [HD.out]; rfl)
          clear HD
          go_enter Tryd.func14, Tryd.ntmps14
          go_wp2_with (first
            | (go_at_call 9; have _t := tok; refine HR1.out.mono ?_; rintro e w1 ⟨rfl, hb1⟩; clear tok HR1)
            | (go_at_call 9; refine (HR2.out _).mono ?_; rintro e w2 ⟨rfl, hb2⟩))
          go_ret
          exact ⟨by rw [HX.out]; rfl, hb1.trans (hb2.mono hb1.size)⟩
      · have a3 : (p.length : Int) ≤ (top.length : Int) := by omega
        have HX := Lib.hid (show V = false by rw [HW.out, decide_eq_false c3]; rfl)
        clear HW c1 c2 c3
        go_enter Tryd.func14, Tryd.ntmps14
        go_wp2_with (first
          | (go_at_call 9; have _t := tok; refine HR1.out.mono ?_; rintro e w1 ⟨rfl, hb1⟩; clear tok HR1)
          | (go_at_call 9; refine (HR2.out _).mono ?_; rintro e w2 ⟨rfl, hb2⟩))
        go_ret
        exact ⟨by rw [HX.out]; rfl, hb1.trans (hb2.mono hb1.size)⟩
end Go.Proofs.YtipnmjhijjfehaaDoor
