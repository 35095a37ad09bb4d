/- LAYER 12: the document's numbers: those of a text's pieces. -/
import Derived.Test.YtflebnbpoboljaaDoorIp
import Derived.Test.YtflebnbpoboljaaDoorBg
namespace Go.Proofs.YtflebnbpoboljaaDoor
set_option maxRecDepth 100000
open Go Go.RowKit

def goL (b dg most : Nat) : List (List UInt8) → Option (List Nat)
  | [] => some []
  | p :: ps => match valueL b dg p with
    | none => none
    | some n => if most < n then none else (goL b dg most ps).map (n :: ·)
def numbersL (b dg most : Nat) (x : UInt8) (s : List UInt8) : Option (List Nat) := if s = [] then some [] else goL b dg most (splitL x s)
theorem goL_at (b dg most k : Nat) (ps : List (List UInt8)) (h : k < ps.length) : goL b dg most (ps.drop k) = match valueL b dg (ps.getD k []) with
    | none => none
    | some n => if most < n then none else (goL b dg most (ps.drop (k + 1))).map (n :: ·) := by
  rw [List.drop_eq_getElem_cons h, goL, List.getD_eq_getElem?_getD, List.getElem?_eq_getElem h]; rfl
theorem splitL_len (x : UInt8) (s : List UInt8) : (splitL x s).length ≤ s.length + 1 := by
  induction s with
  | nil => exact Nat.le_refl _
  | cons c s ih =>
    rw [splitL]
    split
    · simp; exact ih
    · split
      · simp
      · rename_i h; rw [h] at ih; simp at ih ⊢; omega
def NumsV (o : Option (List Nat)) (base : Nat) (v : Value) (w : World) : Prop := match o with
  | none => v = .tuple #[.slice none 0 0, .bool false]
  | some l => ∃ u, v = .tuple #[u, .bool true] ∧ w.ownsRow base 3 1 u l.length (intsV l)
theorem NumsV.none {o : Option (List Nat)} {base : Nat} {w : World} (h : o = none) : NumsV o base (.tuple #[.slice none 0 0, .bool false]) w := by subst h; rfl
theorem NumsV.some {o : Option (List Nat)} {base : Nat} {w : World} {u : Value} {l : List Nat} (h : o = some l) (hu : w.ownsRow base 3 1 u l.length (intsV l)) : NumsV o base (.tuple #[u, .bool true]) w := by subst h; exact ⟨u, rfl, hu⟩
set_option maxHeartbeats 2000000 in
theorem rnumbers10_any (s : List UInt8) (hs : s.length ≤ 1000) (w : World) :
    Calls Tryd.prog 37 #[.string (bstr s), .int .u8 46, .int .i64 10, .int .i64 3, .int .i64 255] w fun e w' => ∃ v, e = .returned v ∧ NumsV (numbersL 10 3 255 46 s) w.heap.size v w' ∧ Below w.heap.size w w' := by
  obtain ⟨i0, hi, hz0, hz1, hz2⟩ := info_parts infoInt12
  have hown0 : (w.alloc (.cells #[] 3)).ownsRow w.heap.size 3 1 (.slice (some ⟨w.heap.size, 0, none⟩) 0 0) 0 (intsV []) := World.ownsRow_lit w (e := 3) (size := 1) #[] 0 (Nat.le_refl _) (by unfold maxLen; omega) rfl
  have hb0 : Below w.heap.size w (w.alloc (.cells #[] 3)) := (Below.refl _ w).alloc (Nat.le_refl _) _
  by_cases h0 : s = []
  · subst h0
    have hne : (bstr []).toList.isEmpty = true := by rw [bstr_toList]; rfl
    generalize bstr [] = S at *
    go_enter Tryd.func37, Tryd.ntmps37
    go_wp2
    go_ret2
    exact ⟨_, rfl, NumsV.some rfl hown0, hb0⟩
  · have HN := Lib.hid (show numbersL 10 3 255 46 s = goL 10 3 255 (splitL 46 s) by unfold numbersL; rw [if_neg h0])
    have hne : (bstr s).toList.isEmpty = false := by
      rw [bstr_toList]
      cases s with
      | nil => exact absurd rfl h0
      | cons _ _ => rfl
    have hsp := Lib.hid (fun w' => rsplit_any s 46 hs w')
    have hpl := splitL_len 46 s
    have hp0 : 0 < (splitL 46 s).length := List.length_pos_iff.2 (splitL_ne _ _)
    generalize splitL 46 s = ps at *
    generalize bstr s = S at *
    go_enter Tryd.func37, Tryd.ntmps37
    go_wp2_with (go_at_call 56; refine (hsp.out _).mono ?_; rintro e w2 ⟨vp, rfl, hownp, hb2⟩; obtain ⟨A, c, rfl, -, hsl⟩ := Sl.of_own hownp; have hb2 := hb0.trans (hb2.mono hb0.size); clear hownp hown0 hb0)
    go_loopw [12, 24] (fun v i wr => ∃ (k : Nat) (ns : List Nat), k ≤ ps.length ∧ i = .int .i64 k ∧ Begun wr w2.heap.size 3 v k (intsV ns) ∧ ns.length = k ∧ goL 10 3 255 ps = (goL 10 3 255 (ps.drop k)).map (ns ++ ·) ∧ Below w2.heap.size w2 wr) (fun _ i _ => ps.length - (intOf i).toNat)
    case atStart => exact ⟨0, [], by omega, rfl, Begun.lit _ _ _ _, rfl, by rw [List.drop_zero]; simp, Below.refl _ _⟩
    case round =>
      obtain ⟨k, ns, hk, rfl, hbg, hnl, hgo, hbr⟩ := hrel
      by_cases hlt : k < ps.length
      · have hlt' : (k : Int) < (ps.length : Int) := by omega
        obtain ⟨b, o, hA, -, -⟩ := hsl.rd.get (i := k) (by rw [length_strsV]; exact hlt)
        have hix := index_strs A b o ps.length c k hA hlt
        have hce := strs_cell (by rw [hA] at hsl; exact hsl.later (Nat.le_refl _) hbr) k hlt
        have HG := Lib.hid hgo
        have HA := Lib.hid (goL_at 10 3 255 k ps hlt)
        have hv := Lib.hid (fun w' => rvalue10_any (ps.getD k []) 3 (by omega) w')
        generalize ps.getD k [] = p at *
        clear hA
        cases hval : valueL 10 3 p with
        | none =>
          have HR := Lib.hid (show numbersL 10 3 255 46 s = none by rw [HN.out, HG.out, HA.out, hval]; rfl)
          rw [hval, show optI none = -1 from rfl] at hv
          clear hgo HG HA hbg hval
          go_wp2_with (go_at_call 57; refine (hv.out _).mono ?_; rintro e w3 ⟨rfl, hb3⟩)
          go_ret2
          exact ⟨_, rfl, NumsV.none HR.out, (hb2.trans (hbr.mono hb2.size)).trans (hb3.mono (hb2.trans (hbr.mono hb2.size)).size)⟩
        | some n =>
          rw [hval, show optI (some n) = (n : Int) from rfl] at hv
          by_cases hm : 255 < n
          · have HR := Lib.hid (show numbersL 10 3 255 46 s = none by rw [HN.out, HG.out, HA.out, hval]; simp [hm])
            have hm' : (255 : Int) < (n : Int) := by omega
            clear hgo HG HA hbg hval hm
            go_wp2_with (go_at_call 57; refine (hv.out _).mono ?_; rintro e w3 ⟨rfl, hb3⟩)
            go_ret2
            exact ⟨_, rfl, NumsV.none HR.out, (hb2.trans (hbr.mono hb2.size)).trans (hb3.mono (hb2.trans (hbr.mono hb2.size)).size)⟩
          · have HG2 := Lib.hid (show goL 10 3 255 ps = (goL 10 3 255 (ps.drop (k + 1))).map ((ns ++ [n]) ++ ·) by
              rw [HG.out, HA.out, hval]
              simp only [if_neg hm, Option.map_map]
              congr 1
              funext t
              simp)
            have hm' : (n : Int) ≤ (255 : Int) := by omega
            have hmw : IntKind.i64.wrap (n : Int) = (n : Int) := by rw [IntKind.wrap_i64]; omega
            have n1 : k + 1 ≤ maxLen := by unfold maxLen; omega
            have n2 : (k + 1) * 8 ≤ 140737488355328 := by omega
            clear hgo HG HA hval hm
            go_wp2_with (first
              | (go_at_call 57; refine (hv.out _).mono ?_; rintro e w3 ⟨rfl, hb3⟩; have hbg3 := hbg.later hb3 (Nat.le_refl _); have hb3 := hbr.trans (hb3.mono hbr.size); have hsl4 : Sl (w3.alloc (.cells #[.int .i64 (n : Int)] 3)) (some ⟨w3.heap.size, 0, none⟩) 1 (intsV [n]) := sl_made (intsV [n]) rfl 1 rfl; have hbg4 := hbg3.later ((Below.refl w3.heap.size w3).alloc (Nat.le_refl _) (.cells #[.int .i64 (n : Int)] 3)) (Nat.le_refl _); have hb4 := hb3.alloc hb3.size (.cells #[.int .i64 (n : Int)] 3))
              | (at_builtin; refine wpList_append_begun rfl (.tmp 39) (.tmp 41) 55 rfl w2.heap.size 3 i0 _ 8 Tryd.underlying55 hi hz0 hz1 hz2 rfl _ k (intsV ns) rfl hbg4 (some ⟨w3.heap.size, 0, none⟩) 1 1 (intsV [n]) rfl rfl (by decide) hsl4 (intsV_one _) n1 n2 hb4.size ?_; intro v5 w5 hown5 hb5; rw [← intsV_append] at hown5))
            go_roundw
            case rel => exact ⟨k + 1, ns ++ [n], by omega, by go_num, .inr hown5, by rw [List.length_append, hnl]; rfl, HG2.out, hb4.trans hb5⟩
            case measure => simp [intOf]; omega
      · obtain rfl : k = ps.length := by omega
        have HR := Lib.hid (show numbersL 10 3 255 46 s = some ns by rw [HN.out, hgo, List.drop_length]; simp [goL])
        have hown := (show ∀ v, Begun wr w2.heap.size 3 v ps.length (intsV ns) → wr.ownsRow w.heap.size 3 1 v ns.length (intsV ns) from fun v hbg => by
          rcases hbg with ⟨_, h, _⟩ | h
          · omega
          · rw [hnl]; exact own_mono h hb2.size) _ hbg
        clear hbg hgo
        go_wp2
        go_ret2
        exact ⟨_, rfl, NumsV.some HR.out hown, hb2.trans (hbr.mono hb2.size)⟩
set_option maxHeartbeats 2000000 in
theorem rnumbers16_any (s : List UInt8) (hs : s.length ≤ 1000) (w : World) :
    Calls Tryd.prog 37 #[.string (bstr s), .int .u8 58, .int .i64 16, .int .i64 4, .int .i64 65535] w fun e w' => ∃ v, e = .returned v ∧ NumsV (numbersL 16 4 65535 58 s) w.heap.size v w' ∧ Below w.heap.size w w' := by
  obtain ⟨i0, hi, hz0, hz1, hz2⟩ := info_parts infoInt12
  have hown0 : (w.alloc (.cells #[] 3)).ownsRow w.heap.size 3 1 (.slice (some ⟨w.heap.size, 0, none⟩) 0 0) 0 (intsV []) := World.ownsRow_lit w (e := 3) (size := 1) #[] 0 (Nat.le_refl _) (by unfold maxLen; omega) rfl
  have hb0 : Below w.heap.size w (w.alloc (.cells #[] 3)) := (Below.refl _ w).alloc (Nat.le_refl _) _
  by_cases h0 : s = []
  · subst h0
    have hne : (bstr []).toList.isEmpty = true := by rw [bstr_toList]; rfl
    generalize bstr [] = S at *
    go_enter Tryd.func37, Tryd.ntmps37
    go_wp2
    go_ret2
    exact ⟨_, rfl, NumsV.some rfl hown0, hb0⟩
  · have HN := Lib.hid (show numbersL 16 4 65535 58 s = goL 16 4 65535 (splitL 58 s) by unfold numbersL; rw [if_neg h0])
    have hne : (bstr s).toList.isEmpty = false := by
      rw [bstr_toList]
      cases s with
      | nil => exact absurd rfl h0
      | cons _ _ => rfl
    have hsp := Lib.hid (fun w' => rsplit_any s 58 hs w')
    have hpl := splitL_len 58 s
    have hp0 : 0 < (splitL 58 s).length := List.length_pos_iff.2 (splitL_ne _ _)
    generalize splitL 58 s = ps at *
    generalize bstr s = S at *
    go_enter Tryd.func37, Tryd.ntmps37
    go_wp2_with (go_at_call 56; refine (hsp.out _).mono ?_; rintro e w2 ⟨vp, rfl, hownp, hb2⟩; obtain ⟨A, c, rfl, -, hsl⟩ := Sl.of_own hownp; have hb2 := hb0.trans (hb2.mono hb0.size); clear hownp hown0 hb0)
    go_loopw [12, 24] (fun v i wr => ∃ (k : Nat) (ns : List Nat), k ≤ ps.length ∧ i = .int .i64 k ∧ Begun wr w2.heap.size 3 v k (intsV ns) ∧ ns.length = k ∧ goL 16 4 65535 ps = (goL 16 4 65535 (ps.drop k)).map (ns ++ ·) ∧ Below w2.heap.size w2 wr) (fun _ i _ => ps.length - (intOf i).toNat)
    case atStart => exact ⟨0, [], by omega, rfl, Begun.lit _ _ _ _, rfl, by rw [List.drop_zero]; simp, Below.refl _ _⟩
    case round =>
      obtain ⟨k, ns, hk, rfl, hbg, hnl, hgo, hbr⟩ := hrel
      by_cases hlt : k < ps.length
      · have hlt' : (k : Int) < (ps.length : Int) := by omega
        obtain ⟨b, o, hA, -, -⟩ := hsl.rd.get (i := k) (by rw [length_strsV]; exact hlt)
        have hix := index_strs A b o ps.length c k hA hlt
        have hce := strs_cell (by rw [hA] at hsl; exact hsl.later (Nat.le_refl _) hbr) k hlt
        have HG := Lib.hid hgo
        have HA := Lib.hid (goL_at 16 4 65535 k ps hlt)
        have hv := Lib.hid (fun w' => rvalue16_any (ps.getD k []) 4 (by omega) w')
        generalize ps.getD k [] = p at *
        clear hA
        cases hval : valueL 16 4 p with
        | none =>
          have HR := Lib.hid (show numbersL 16 4 65535 58 s = none by rw [HN.out, HG.out, HA.out, hval]; rfl)
          rw [hval, show optI none = -1 from rfl] at hv
          clear hgo HG HA hbg hval
          go_wp2_with (go_at_call 57; refine (hv.out _).mono ?_; rintro e w3 ⟨rfl, hb3⟩)
          go_ret2
          exact ⟨_, rfl, NumsV.none HR.out, (hb2.trans (hbr.mono hb2.size)).trans (hb3.mono (hb2.trans (hbr.mono hb2.size)).size)⟩
        | some n =>
          rw [hval, show optI (some n) = (n : Int) from rfl] at hv
          by_cases hm : 65535 < n
          · have HR := Lib.hid (show numbersL 16 4 65535 58 s = none by rw [HN.out, HG.out, HA.out, hval]; simp [hm])
            have hm' : (65535 : Int) < (n : Int) := by omega
            clear hgo HG HA hbg hval hm
            go_wp2_with (go_at_call 57; refine (hv.out _).mono ?_; rintro e w3 ⟨rfl, hb3⟩)
            go_ret2
            exact ⟨_, rfl, NumsV.none HR.out, (hb2.trans (hbr.mono hb2.size)).trans (hb3.mono (hb2.trans (hbr.mono hb2.size)).size)⟩
          · have HG2 := Lib.hid (show goL 16 4 65535 ps = (goL 16 4 65535 (ps.drop (k + 1))).map ((ns ++ [n]) ++ ·) by
              rw [HG.out, HA.out, hval]
              simp only [if_neg hm, Option.map_map]
              congr 1
              funext t
              simp)
            have hm' : (n : Int) ≤ (65535 : Int) := by omega
            have hmw : IntKind.i64.wrap (n : Int) = (n : Int) := by rw [IntKind.wrap_i64]; omega
            have n1 : k + 1 ≤ maxLen := by unfold maxLen; omega
            have n2 : (k + 1) * 8 ≤ 140737488355328 := by omega
            clear hgo HG HA hval hm
            go_wp2_with (first
              | (go_at_call 57; refine (hv.out _).mono ?_; rintro e w3 ⟨rfl, hb3⟩; have hbg3 := hbg.later hb3 (Nat.le_refl _); have hb3 := hbr.trans (hb3.mono hbr.size); have hsl4 : Sl (w3.alloc (.cells #[.int .i64 (n : Int)] 3)) (some ⟨w3.heap.size, 0, none⟩) 1 (intsV [n]) := sl_made (intsV [n]) rfl 1 rfl; have hbg4 := hbg3.later ((Below.refl w3.heap.size w3).alloc (Nat.le_refl _) (.cells #[.int .i64 (n : Int)] 3)) (Nat.le_refl _); have hb4 := hb3.alloc hb3.size (.cells #[.int .i64 (n : Int)] 3))
              | (at_builtin; refine wpList_append_begun rfl (.tmp 39) (.tmp 41) 55 rfl w2.heap.size 3 i0 _ 8 Tryd.underlying55 hi hz0 hz1 hz2 rfl _ k (intsV ns) rfl hbg4 (some ⟨w3.heap.size, 0, none⟩) 1 1 (intsV [n]) rfl rfl (by decide) hsl4 (intsV_one _) n1 n2 hb4.size ?_; intro v5 w5 hown5 hb5; rw [← intsV_append] at hown5))
            go_roundw
            case rel => exact ⟨k + 1, ns ++ [n], by omega, by go_num, .inr hown5, by rw [List.length_append, hnl]; rfl, HG2.out, hb4.trans hb5⟩
            case measure => simp [intOf]; omega
      · obtain rfl : k = ps.length := by omega
        have HR := Lib.hid (show numbersL 16 4 65535 58 s = some ns by rw [HN.out, hgo, List.drop_length]; simp [goL])
        have hown := (show ∀ v, Begun wr w2.heap.size 3 v ps.length (intsV ns) → wr.ownsRow w.heap.size 3 1 v ns.length (intsV ns) from fun v hbg => by
          rcases hbg with ⟨_, h, _⟩ | h
          · omega
          · rw [hnl]; exact own_mono h hb2.size) _ hbg
        clear hbg hgo
        go_wp2
        go_ret2
        exact ⟨_, rfl, NumsV.some HR.out hown, hb2.trans (hbr.mono hb2.size)⟩
end Go.Proofs.YtflebnbpoboljaaDoor
