/- LAYER 14: the document's Normal. -/
import Derived.Test.YtipnmjhijjfehaaDoorNr
namespace Go.Proofs.YtipnmjhijjfehaaDoor
set_option maxRecDepth 100000
open Go Go.RowKit

theorem normL_head (s : List UInt8) (h : s.getD 0 0 ≠ 47) : normL s = none := by
  unfold normL
  split
  · exact absurd rfl h
  · rfl
theorem normL_none (r : List UInt8) (h : goN [] (splitL 47 r) = none) : normL (47 :: r) = none := by
  show (match goN [] (splitL 47 r) with
    | none => none
    | some l => if (joinP l).length ≤ 256 then some (joinP l) else none) = none
  rw [h]
theorem normL_some (r : List UInt8) (l : List (List UInt8)) (h : goN [] (splitL 47 r) = some l) : normL (47 :: r) = if (joinP l).length ≤ 256 then some (joinP l) else none := by
  show (match goN [] (splitL 47 r) with
    | none => none
    | some l => if (joinP l).length ≤ 256 then some (joinP l) else none) = _
  rw [h]
theorem goN_at (l ps : List (List UInt8)) (k : Nat) (h : k < ps.length) : goN l (ps.drop k) = match alongL l (ps.getD k []) with
    | none => none
    | some m => goN m (ps.drop (k + 1)) := by
  rw [List.drop_eq_getElem_cons h, goN_along, List.getD_eq_getElem?_getD, List.getElem?_eq_getElem h]; rfl
theorem flatP_le (l : List (List UInt8)) (h : ∀ w ∈ l, w.length ≤ 64) : (flatP l).length ≤ 65 * l.length := by
  unfold flatP
  induction l with
  | nil => exact Nat.le_refl _
  | cons w l ih =>
    have := ih (fun v hv => h v (List.mem_cons_of_mem _ hv))
    have := h w (List.mem_cons_self ..)
    rw [List.flatMap_cons, List.length_append, List.length_cons, List.length_cons]; omega
theorem flatP_take (l : List (List UInt8)) (k : Nat) (h : k < l.length) : flatP (l.take (k + 1)) = flatP (l.take k) ++ (47 :: l.getD k []) := by
  rw [List.take_add_one, flatP_app]
  congr 1
  rw [List.getD_eq_getElem?_getD, List.getElem?_eq_getElem h]
  exact flatP_one _
theorem cut_strs (A : Option Addr) (c n : Nat) (hA : A ≠ none) (hc : n + 1 ≤ c) (w : World) : (Instr.sliceAt 27 (.slice A (n + 1) c) none (some (.int .i64 (n : Int))) none).run Tryd.prog w = .ok (.slice A n c) w := by
  cases A with
  | none => exact absurd rfl hA
  | some a =>
    have h2 : (n : Int) ≤ (c : Int) := by omega
    clear hA hc
    go_simp
theorem sl_empty (w : World) (A : Addr) (d : Nat) : Sl w (some A) d (strsV []) := ⟨.inl (by simp [strsV]), by simp [strsV], fun h => by cases h⟩
set_option maxHeartbeats 4000000 in
theorem rnormal_any (s : List UInt8) (hs : s.length ≤ 1000) (w : World) : Calls Tryd.prog 7 #[.string (bstr s)] w fun e w' => e = .returned (.tuple #[.string (bstr ((normL s).getD [])), .bool (normL s).isSome]) ∧ Below w.heap.size w w' := by
  have hz := size_bstr s
  obtain ⟨V, hV⟩ : ∃ V, V = normL s := ⟨_, rfl⟩
  have HV := Lib.hid hV
  rw [← hV]
  clear hV
  by_cases h3 : s = []
  · have HW := Lib.hid (show V = none by rw [HV.out, h3]; rfl)
    have a2 : ((s.length : Int) == 0) = true := by rw [h3]; rfl
    clear HV h3
    go_enter Tryd.func7, Tryd.ntmps7
    go_wp2
    go_ret2
    exact ⟨by rw [HW.out]; rfl, Below.refl _ _⟩
  have hpos : 0 < s.length := List.length_pos_iff.2 h3
  have a2 : ((s.length : Int) == 0) = false := by rw [beq_eq_false_iff_ne]; omega
  have hix : ∀ w', (Instr.index 9 (.string (bstr s)) (.int .i64 0)).run Tryd.prog w' = .ok (.int .u8 ((s.getD 0 0).toNat : Int)) w' := fun w' => index_bstr s 0 hpos w'
  by_cases h4 : s.getD 0 0 = 47
  · obtain ⟨r, rfl⟩ : ∃ r, s = 47 :: r := by
      cases s with
      | nil => exact absurd rfl h3
      | cons c r => exact ⟨r, by rw [show c = 47 from h4]⟩
    rw [h4] at hix
    have a4 : ((47 : UInt8).toNat : Int) = 47 := rfl
    rw [a4] at hix
    have hex := tail_bstr 47 r (r.length + 1) rfl
    rw [List.length_cons] at hz hs
    have a3 : ((r.length : Int) + 1 == 0) = false := by rw [beq_eq_false_iff_ne]; omega
    have hcp := Lib.hid (fun w' => rpieces_any r (by omega) w')
    have HM := Lib.hid (fun s (h : s ∈ splitL 47 r) => (by have := splitL_piece 47 r s h; omega : s.length ≤ 1000))
    have hlen := splitL_len 47 r
    have HN1 := Lib.hid (fun h => HV.out.trans (normL_none r h))
    have HN2 := Lib.hid (fun l h => HV.out.trans (normL_some r l h))
    generalize bstr (47 :: r) = P at *
    clear HV h3 h4 hpos a4 a2
    generalize splitL 47 r = ps at *
    go_enter Tryd.func7, Tryd.ntmps7
    go_wp2_with (go_at_call 18; refine (hcp.out _).mono ?_; rintro e w1 ⟨v, rfl, hown, hb1⟩; obtain ⟨A, c, rfl, hpl, hsl⟩ := Sl.of_own hown; clear hpl)
    have hB1 : Below w.heap.size w w1 := ((Below.refl _ w).alloc (Nat.le_refl _) _).trans (hb1.mono (by rw [World.size_alloc]; omega))
    clear hb1 hown hcp hex hix a3
    go_loopw [4, 23] (fun v i wr => ∃ (k : Nat) (l : List (List UInt8)) (B : Option Addr) (d : Nat), k ≤ ps.length ∧ i = .int .i64 k ∧ v = .slice B l.length d ∧ Sl wr B d (strsV l) ∧ l.length ≤ k ∧ (∀ x ∈ l, x.length ≤ 64) ∧ goN l (ps.drop k) = goN [] ps ∧ Below w1.heap.size w1 wr) (fun _ i _ => ps.length - (intOf i).toNat)
    case atStart => exact ⟨0, [], _, _, by omega, rfl, rfl, sl_empty _ _ _, by simp, by simp, rfl, Below.refl _ _⟩
    case round =>
      obtain ⟨k, l, B, d, hk, rfl, rfl, hsv, hlk, hl64, hgo, hbr⟩ := hrel
      by_cases hlt : k < ps.length
      · have hlt' : (k : Int) < (ps.length : Int) := by omega
        obtain ⟨b, o, rfl, -, -⟩ := hsl.rd.get (i := k) (by rw [length_strsV]; exact hlt)
        have hixs := index_strs (some ⟨b, o, none⟩) b o ps.length c k rfl hlt
        have hce := strs_cell (hsl.later (Nat.le_refl _) hbr) k hlt
        have HG := Lib.hid (hgo.symm.trans (goN_at l ps k hlt))
        have hx1 := HM.out (ps.getD k []) (by rw [List.getD_eq_getElem?_getD, List.getElem?_eq_getElem hlt]; exact List.getElem_mem hlt)
        have HL64 := Lib.hid hl64
        generalize ps.getD k [] = x at *
        have e0 : (bstr x).toList.isEmpty = decide (x = []) := by rw [bstr_toList]; cases x <;> rfl
        have e1 := bstr_is x [46]
        have e2 := bstr_is x [46, 46]
        clear hgo hl64
        by_cases c0 : x = []
        · have HN := Lib.hid (show goN l (ps.drop (k + 1)) = goN [] ps by rw [HG.out]; unfold alongL; rw [if_pos (.inl c0)])
          rw [decide_eq_true c0] at e0
          clear HG c0 e1 e2
          go_wp2
          go_roundw
          case rel => exact ⟨k + 1, l, B, d, by omega, by go_num, rfl, hsv, by omega, HL64.out, HN.out, hbr⟩
          case measure => simp [intOf]; omega
        rw [decide_eq_false c0] at e0
        by_cases c1 : x = [46]
        · have HN := Lib.hid (show goN l (ps.drop (k + 1)) = goN [] ps by rw [HG.out]; unfold alongL; rw [if_pos (.inr c1)])
          rw [decide_eq_true c1] at e1
          clear HG c0 c1 e2
          go_wp2
          go_roundw
          case rel => exact ⟨k + 1, l, B, d, by omega, by go_num, rfl, hsv, by omega, HL64.out, HN.out, hbr⟩
          case measure => simp [intOf]; omega
        rw [decide_eq_false c1] at e1
        have c01 : ¬ (x = [] ∨ x = [46]) := by rintro (h | h); exact c0 h; exact c1 h
        by_cases c2 : x = [46, 46]
        · rw [decide_eq_true c2] at e2
          by_cases c3 : l = []
          · have HN := Lib.hid (show V = none from HN1.out (by rw [HG.out]; unfold alongL; rw [if_neg c01, if_pos c2, if_pos c3]))
            have a5 : ((l.length : Int) == 0) = true := by rw [c3]; rfl
            clear HG c0 c1 c01 c2 c3
            go_wp2
            go_ret2
            exact ⟨by rw [HN.out]; rfl, hB1.trans (hbr.mono hB1.size)⟩
          · have HN := Lib.hid (show goN l.dropLast (ps.drop (k + 1)) = goN [] ps by rw [HG.out]; unfold alongL; rw [if_neg c01, if_pos c2, if_neg c3])
            obtain ⟨n, hn⟩ : ∃ n, l.length = n + 1 := ⟨l.length - 1, by have := List.length_pos_iff.2 c3; omega⟩
            have hroom := hsv.room
            rw [length_strsV, hn] at hroom
            have hBn : B ≠ none := by
              rintro rfl
              have := hsv.bare rfl
              omega
            have hct := cut_strs B d n hBn hroom
            have a5 : ((n : Int) + 1 == 0) = false := by rw [beq_eq_false_iff_ne]; omega
            have hsv2 : Sl wr B d (strsV l.dropLast) := by rw [List.dropLast_eq_take, strsV_take]; exact hsv.take
            have hdl : n = l.dropLast.length := by rw [List.length_dropLast, hn]; rfl
            have HD := Lib.hid hdl
            have H64' := Lib.hid (fun x (h : x ∈ l.dropLast) => HL64.out x (List.dropLast_subset l h))
            rw [hn]
            clear HG c0 c1 c01 c2 c3 hdl hroom hBn
            go_wp2
            go_roundw
            case rel => exact ⟨k + 1, l.dropLast, B, d, by omega, by go_num, by rw [← HD.out], hsv2, by rw [← HD.out]; omega, H64'.out, HN.out, hbr⟩
            case measure => simp [intOf]; omega
        · rw [decide_eq_false c2] at e2
          have hnm := rname_any x (by omega) wr
          cases c3 : nameL x with
          | false =>
            have HN := Lib.hid (show V = none from HN1.out (by rw [HG.out]; unfold alongL; rw [if_neg c01, if_neg c2, c3]; rfl))
            rw [c3] at hnm
            have HC := Lib.hid hnm
            clear HG c0 c1 c01 c2 c3 hnm
            go_wp2_with (go_at_call 19; refine HC.out.mono ?_; rintro e w' ⟨rfl, rfl⟩)
            go_ret2
            exact ⟨by rw [HN.out]; rfl, hB1.trans (hbr.mono hB1.size)⟩
          | true =>
            have HN := Lib.hid (show goN (l ++ [x]) (ps.drop (k + 1)) = goN [] ps by rw [HG.out]; unfold alongL; rw [if_neg c01, if_neg c2, if_pos c3])
            have hx64 := nameL_len x c3
            rw [c3] at hnm
            have HC := Lib.hid hnm
            clear HG c0 c1 c01 c2 c3 hnm
            obtain ⟨i0, hi, hz0, hz1, hz2⟩ := info_parts infoStr
            have hown0 : (wr.alloc (.cells #[] 9)).ownsRow w1.heap.size 9 1 (.slice (some ⟨wr.heap.size, 0, none⟩) 0 0) 0 (strsV []) := World.ownsRow_lit wr (e := 9) (size := 1) #[] 0 hbr.size (by unfold maxLen; omega) rfl
            have hbe : Below w1.heap.size w1 (wr.alloc (.cells #[] 9)) := hbr.alloc hbr.size _
            have hsv0 : Sl (wr.alloc (.cells #[] 9)) B d (strsV l) := hsv.later (Nat.le_refl _) ((Below.refl _ wr).alloc (Nat.le_refl _) _)
            have n1 : 0 + l.length ≤ maxLen := by unfold maxLen; omega
            have n2 : (0 + l.length) * 16 ≤ 140737488355328 := by omega
            have n3 : 0 + l.length + 1 ≤ maxLen := by unfold maxLen; omega
            have n4 : (0 + l.length + 1) * 16 ≤ 140737488355328 := by omega
            have tok := trivial
            go_wp2_with (first
              | (go_at_call 19; refine HC.out.mono ?_; rintro e w' ⟨rfl, rfl⟩)
              | (at_builtin; have _t := tok; refine wpList_append_sl rfl (.tmp 46) (.tmp 47) 27 rfl w1.heap.size 9 i0 _ 16 Tryd.underlying27 hi hz0 hz1 hz2 rfl _ 0 (strsV []) rfl hown0 B l.length d (strsV l) rfl (length_strsV l).symm hsv0 (strsV_one _) n1 n2 hbe.size ?_; intro v3 w3 hown3 hg3; have hb3 := hbe.grown hg3 hbe.size (fun j hj => (hown0.lt j hj).1); rw [← strsV_append, List.nil_append] at hown3; have hslp : Sl (w3.alloc (.cells #[.string (bstr x)] 9)) (some ⟨w3.heap.size, 0, none⟩) 1 (strsV [x]) := sl_made (strsV [x]) rfl 1 rfl; have howna := hown3.alloc (.cells #[.string (bstr x)] 9); have hbe2 := hb3.alloc hb3.size (.cells #[.string (bstr x)] 9); clear tok)
              | (at_builtin; refine wpList_append_sl rfl (.tmp 48) (.tmp 50) 27 rfl w1.heap.size 9 i0 _ 16 Tryd.underlying27 hi hz0 hz1 hz2 rfl _ (0 + l.length) (strsV l) rfl howna (some ⟨w3.heap.size, 0, none⟩) 1 1 (strsV [x]) rfl rfl hslp (strsV_one _) n3 n4 hbe2.size ?_; intro v4 w4 hown4 hg4; have hb4 := hbe2.grown hg4 hbe2.size (fun j hj => (howna.lt j hj).1); rw [← strsV_append] at hown4; obtain ⟨B4, d4, rfl, -, hsv4⟩ := Sl.of_own hown4))
            go_roundw
            case rel => exact ⟨k + 1, l ++ [x], B4, d4, by omega, by go_num, by rw [List.length_append]; rfl, hsv4, by rw [List.length_append]; simp; omega, fun y hy => by rcases List.mem_append.1 hy with h | h; exact HL64.out y h; rw [List.mem_singleton.1 h]; exact hx64, HN.out, hb4⟩
            case measure => simp [intOf]; omega
      · obtain rfl : k = ps.length := by omega
        have HF := Lib.hid (show V = if (joinP l).length ≤ 256 then some (joinP l) else none from HN2.out l (by rw [← hgo, List.drop_length]; rfl))
        have HL64 := Lib.hid hl64
        have hBw := hB1.trans (hbr.mono hB1.size)
        clear hgo hl64 HN1 HN2 hsl HM hbr
        go_wp2
        go_loop [7, 55] (fun v i => ∃ j : Nat, j ≤ l.length ∧ i = .int .i64 j ∧ v = .string (bstr (flatP (l.take j)))) (fun _ i => l.length - (intOf i).toNat)
        case atStart => exact ⟨0, by omega, rfl, rfl⟩
        case round =>
          obtain ⟨j, hj, rfl, rfl⟩ := hrel
          by_cases hjl : j < l.length
          · have hjl' : (j : Int) < (l.length : Int) := by omega
            obtain ⟨b, o, rfl, -, -⟩ := hsv.rd.get (i := j) (by rw [length_strsV]; exact hjl)
            have hixs := index_strs (some ⟨b, o, none⟩) b o l.length d j rfl hjl
            have hce := strs_cell hsv j hjl
            have HT := Lib.hid (flatP_take l j hjl)
            have hx64 := HL64.out (l.getD j []) (by rw [List.getD_eq_getElem?_getD, List.getElem?_eq_getElem hjl]; exact List.getElem_mem hjl)
            have hfl := flatP_le (l.take j) (fun y hy => HL64.out y (List.mem_of_mem_take hy))
            rw [List.length_take] at hfl
            generalize l.getD j [] = x at *
            generalize flatP (l.take j) = F at *
            have hzx := size_bstr x
            have hzF := size_bstr F
            have hc1 : ({ data := #[47] } : ByteArray) ++ bstr x = bstr (47 :: x) := bstr_cat12 [47] x
            have hc2 : bstr F ++ bstr (47 :: x) = bstr (F ++ 47 :: x) := bstr_cat12 F (47 :: x)
            have hz1 : (bstr (47 :: x)).size = x.length + 1 := size_bstr _
            go_wp2
            go_round
            case rel => exact ⟨j + 1, by omega, by go_num, by rw [HT.out]⟩
            case measure => simp [intOf]; omega
          · obtain rfl : j = l.length := by omega
            rw [List.take_length]
            by_cases he : l = []
            · have HX := Lib.hid (show V = some [47] by rw [HF.out, he]; rfl)
              have e0 : (bstr (flatP l)).toList.isEmpty = true := by rw [he, bstr_toList]; rfl
              have hlt' : ¬ ((l.length : Int) < (l.length : Int)) := by omega
              generalize bstr (flatP l) = Q at *
              clear HF he
              go_wp2
              go_ret2
              exact ⟨by rw [HX.out]; rfl, hBw⟩
            · have hfe : flatP l ≠ [] := fun h => he ((flatP_eq_nil l).1 h)
              have e0 : (bstr (flatP l)).toList.isEmpty = false := by
                rw [bstr_toList]
                cases hq : flatP l with
                | nil => exact absurd hq hfe
                | cons _ _ => rfl
              have hj2 : joinP l = flatP l := by rw [joinP_flat, if_neg he]
              have hzF := size_bstr (flatP l)
              rw [hj2] at HF
              generalize flatP l = F at *
              by_cases hl2 : F.length ≤ 256
              · have HX := Lib.hid (show V = some F by rw [HF.out, if_pos hl2])
                have hl3 : (F.length : Int) ≤ 256 := by omega
                clear HF he hl2 hfe hj2
                go_wp2
                go_ret2
                exact ⟨by rw [HX.out]; rfl, hBw⟩
              · have HX := Lib.hid (show V = none by rw [HF.out, if_neg hl2])
                have hl3 : (256 : Int) < (F.length : Int) := by omega
                clear HF he hl2 hfe hj2
                go_wp2
                go_ret2
                exact ⟨by rw [HX.out]; rfl, hBw⟩
  · have HW := Lib.hid (show V = none by rw [HV.out]; exact normL_head s h4)
    have a3 : (((s.getD 0 0).toNat : Int) == 47) = false := by
      rw [beq_eq_false_iff_ne]
      intro h
      exact h4 (UInt8.toNat_inj.1 (by rw [show (47 : UInt8).toNat = 47 from rfl]; omega))
    generalize s.getD 0 0 = y at *
    clear HV h3 h4
    go_enter Tryd.func7, Tryd.ntmps7
    go_wp2
    go_ret2
    exact ⟨by rw [HW.out]; rfl, Below.refl _ _⟩
end Go.Proofs.YtipnmjhijjfehaaDoor
