/- LAYER 14: package path's Right, Names. -/
import Derived.Test.YtipnmjhijjfehaaDoorPp
namespace Go.Proofs.YtipnmjhijjfehaaDoor
set_option maxRecDepth 100000
open Go Go.RowKit

/-- What the one listed variable that strings.Split comes to holds. -/
def EnvP (w : World) : Prop := ∃ m, w.cell? ⟨0, 0, none⟩ = some (.int .i64 m)
theorem EnvP.later {w w' : World} {B : Nat} (h : EnvP w) (hB : w.heap.size ≤ B) (hb : Below B w w') : EnvP w' := by
  obtain ⟨m, hm⟩ := h
  refine ⟨m, ?_⟩
  obtain ⟨c, e, fr, hb', _⟩ := Go.Sort.cells_of_cell? hm
  rw [hb.cell (Nat.lt_of_lt_of_le (Array.getElem?_eq_some_iff.1 hb').1 hB)]
  exact hm
theorem EnvP.next {w w' : World} (h : EnvP w) (hb : Below w.heap.size w w') : EnvP w' := h.later (Nat.le_refl _) hb
theorem sl_none (w : World) : Sl w none 0 (strsV []) := ⟨.inl (by simp [strsV]), by simp [strsV], fun _ => rfl⟩
theorem splitB_sign (c : UInt8) : ∀ (k : Nat) (s : List UInt8), s.count c ≤ k → Lib.splitB (bstr [c]) 0 k (bstr s) = (splitL c s).map bstr := by
  intro k
  induction k with
  | zero =>
    intro s h
    rw [Lib.splitB_zero, splitL_end c s fun d hd e => by
      have := List.count_pos_iff.2 (e ▸ hd)
      omega]
    rfl
  | succ k ih =>
    intro s h
    have e1 : Lib.indexB (bstr s) (bstr [c]) = Lib.indexByte s c := Lib.index_one s c
    rcases index_cases s c with ⟨hi, hsp⟩ | ⟨i, hir, hi, hsp⟩
    · rw [Lib.splitB_miss _ _ _ _ (by rw [e1, hi]), hsp]; rfl
    · rw [Lib.splitB_hit _ _ _ _ i (by rw [e1, hi]), hsp, List.map_cons]
      have h1 : (bstr [c]).size = 1 := rfl
      have h2 := (Lib.indexByte_some hi).1
      have hc : s.count c = (s.take i).count c + (1 + (s.drop (i + 1)).count c) := by
        have e : s = s.take i ++ c :: s.drop (i + 1) := by
          have hg : s[i] = c := (List.getElem?_eq_some_iff.1 h2).2
          conv => lhs; rw [← List.take_append_drop i s, List.drop_eq_getElem_cons hir, hg]
        conv => lhs; rw [e]
        rw [List.count_append, List.count_cons_self]; omega
      have e2 : (bstr s).extract (i + (bstr [c]).size) (bstr s).size = bstr (s.drop (i + 1)) := by
        rw [h1, size_bstr, extract_bstr12, List.take_of_length_le (by rw [List.length_drop]; omega)]
      have e3 : (bstr s).extract 0 (i + 0) = bstr (s.take i) := by
        rw [extract_bstr12, List.drop_zero]; rfl
      rw [e2, e3, ih _ (by omega)]
theorem split_sign (c : UInt8) (s : List UInt8) : Lib.splitB (bstr [c]) 0 (Lib.countB (bstr s) (bstr [c])) (bstr s) = (splitL c s).map bstr := by
  refine splitB_sign c _ s ?_
  have : Lib.countB (bstr s) (bstr [c]) = s.count c := Lib.count_one c s
  omega
theorem split_count (c : UInt8) (s : List UInt8) : Lib.countB (bstr s) (bstr [c]) + 1 = (splitL c s).length := by
  have h := Lib.splitB_all (bstr [c]) (Nat.le_refl 1) 0 _ (bstr s) rfl
  rw [split_sign, List.length_map] at h
  exact h.symm
theorem psplit_any (s : List UInt8) (hs : s.length ≤ 1000) (w : World) (hE : EnvP w) : Calls Tryd.prog 20 #[.string (bstr s), .string ⟨#[47]⟩] w fun e w' => ∃ A c, e = .returned (.slice A (splitL 47 s).length c) ∧ Sl w' A c (strsV (splitL 47 s)) ∧ Below w.heap.size w w' := by
  obtain ⟨m, hm⟩ := hE
  refine (Tryd.strings_Split (bstr s) (bstr [47]) m w (by rw [size_bstr]; omega) hm (Nat.le_refl 1)).mono ?_
  rintro e w' ⟨rfl, rfl⟩
  rw [split_sign 47 s, split_count 47 s]
  refine ⟨_, _, rfl, sl_made (t := 9) (strsV (splitL 47 s)) ?_ _ (length_strsV _), (Below.refl _ w).alloc (Nat.le_refl _) _⟩
  unfold strsV
  rw [List.map_map]; rfl
set_option maxHeartbeats 2000000 in
theorem pright_any (p : List UInt8) (hp : p.length ≤ 1000) (w : World) : Calls Tryd.prog 8 #[.string (bstr p)] w fun e w' => e = .returned (.bool (rightL p)) ∧ Below w.heap.size w w' := by
  have hn := pnormal_any p hp w
  have hr := right_norm p
  cases hv : normL p with
  | none =>
    rw [hv] at hn hr
    have HN := Lib.hid hn
    have HR := Lib.hid (show rightL p = false by rw [hr]; rfl)
    clear hn hr hv
    go_enter Tryd.func8, Tryd.ntmps8
    go_wp2_with (go_at_call 6; refine HN.out.mono ?_; rintro e w1 ⟨rfl, hb1⟩)
    go_ret
    exact ⟨by rw [HR.out]; rfl, hb1⟩
  | some x =>
    rw [hv] at hn hr
    have HN := Lib.hid hn
    have HR := Lib.hid (show rightL p = decide (x = p) by rw [hr]; simp)
    have he := bstr_beq x p
    clear hn hr hv
    go_enter Tryd.func8, Tryd.ntmps8
    go_wp2_with (go_at_call 6; refine HN.out.mono ?_; rintro e w1 ⟨rfl, hb1⟩)
    go_ret
    exact ⟨by rw [HR.out]; rfl, hb1⟩
set_option maxHeartbeats 2000000 in
theorem pnames_any (p : List UInt8) (hp : p.length ≤ 1000) (w : World) (hE : EnvP w) : Calls Tryd.prog 11 #[.string (bstr p)] w fun e w' => ∃ A c, e = .returned (.slice A (namesL p).length c) ∧ Sl w' A c (strsV (namesL p)) ∧ Below w.heap.size w w' := by
  have hz := size_bstr p
  have hrt := pright_any p hp w
  have e1 := bstr_is p [47]
  by_cases h1 : p = [47]
  · have HN := Lib.hid (namesL_off p (.inr h1))
    rw [decide_eq_true h1] at e1
    clear hrt h1
    go_enter Tryd.func11, Tryd.ntmps11
    go_wp2
    go_ret
    exact ⟨none, 0, by rw [HN.out]; rfl, by rw [HN.out]; exact sl_none w, Below.refl _ _⟩
  rw [decide_eq_false h1] at e1
  cases h : rightL p with
  | false =>
    rw [h] at hrt
    have HN := Lib.hid (namesL_off p (.inl h))
    have HR := Lib.hid hrt
    clear h hrt h1
    go_enter Tryd.func11, Tryd.ntmps11
    go_wp2_with (go_at_call 8; refine HR.out.mono ?_; rintro e w1 ⟨rfl, hb1⟩)
    go_ret
    exact ⟨none, 0, by rw [HN.out]; rfl, by rw [HN.out]; exact sl_none w1, hb1⟩
  | true =>
    rw [h] at hrt
    have HR := Lib.hid hrt
    obtain ⟨r, rfl⟩ := right_head p h
    have HN := Lib.hid (namesL_right _ r h rfl (fun e => h1 (by rw [e])))
    have hex := tail_bstr 47 r (r.length + 1) rfl
    rw [List.length_cons] at hz hp
    have hcp := Lib.hid (fun w' hE => psplit_any r (by omega) w' hE)
    generalize bstr (47 :: r) = P at *
    clear h h1 hrt
    go_enter Tryd.func11, Tryd.ntmps11
    go_wp2_with (first
      | (go_at_call 8; refine HR.out.mono ?_; rintro e w1 ⟨rfl, hb1⟩)
      | (go_at_call 20; refine (hcp.out _ (hE.next hb1)).mono ?_; rintro e w2 ⟨A, c, rfl, hsl, hb2⟩))
    go_ret
    exact ⟨A, c, by rw [HN.out]; rfl, by rw [HN.out]; exact hsl, hb1.trans (hb2.mono hb1.size)⟩
end Go.Proofs.YtipnmjhijjfehaaDoor
