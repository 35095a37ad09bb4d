/- LAYER 16: the document's Names, Join. -/
import Derived.Test.YtbngnmhbnhpbeaaDoorXp
import Derived.Test.YtbngnmhbnhpbeaaDoorXr
namespace Go.Proofs.YtbngnmhbnhpbeaaDoor
set_option maxRecDepth 100000
open Go Go.RowKit

/-- What a row of strings that may be none answers: the row and whether. -/
def GaveRow (o : Option (List (List UInt8))) (w : World) (e : Ending) (w' : World) : Prop :=
  ∃ (A : Option Addr) (c : Nat), e = .returned (.tuple #[.slice A (o.getD []).length c, .bool o.isSome]) ∧ Sl w' A c (strsV (o.getD [])) ∧ Below w.heap.size w w'
theorem sl_none16 (w : World) : Sl w none 0 (strsV []) := ⟨.inl (by simp [strsV]), by simp [strsV], fun _ => rfl⟩
set_option maxHeartbeats 2000000 in
theorem rnames16_any (s : List UInt8) (hs : s.length ≤ 4000) (w : World) : Calls Tryd.prog 12 #[.string (bstr s)] w (GaveRow (namesC s) w) := by
  have hz := size_bstr s
  have hsp := Lib.hid (rsplit16_any s 44 hs w)
  have hlen := splitL_len 44 s
  have hri := Lib.hid (fun A c w' => rrise_any (splitL 44 s) (by omega) (fun p hp => by have := splitL_piece 44 s p hp; omega) A c w')
  have HV := Lib.hid (show namesC s = if riseL (splitL 44 s) = true then some (splitL 44 s) else none from rfl)
  generalize namesC s = V at *
  generalize splitL 44 s = ps at *
  cases hr : riseL ps with
  | true =>
    have HW := Lib.hid (HV.out.trans (if_pos hr))
    rw [hr] at hri
    clear HV hr
    go_enter Tryd.func12, Tryd.ntmps12
    go_wp2_with (first
      | (go_at_call 23; refine hsp.out.mono ?_; rintro e w1 ⟨v, rfl, hown, hb1⟩; obtain ⟨A, c, rfl, hpl, hsl⟩ := Sl.of_own hown; clear hpl)
      | (go_at_call 28; refine (hri.out A c w1 hsl).mono ?_; rintro e w' ⟨rfl, rfl⟩))
    go_ret2
    exact ⟨A, c, by rw [HW.out]; rfl, by rw [HW.out]; exact hsl, hb1⟩
  | false =>
    have HW := Lib.hid (HV.out.trans (if_neg (by rw [hr]; decide)))
    rw [hr] at hri
    clear HV hr
    go_enter Tryd.func12, Tryd.ntmps12
    go_wp2_with (first
      | (go_at_call 23; refine hsp.out.mono ?_; rintro e w1 ⟨v, rfl, hown, hb1⟩; obtain ⟨A, c, rfl, hpl, hsl⟩ := Sl.of_own hown; clear hpl)
      | (go_at_call 28; refine (hri.out A c w1 hsl).mono ?_; rintro e w' ⟨rfl, rfl⟩))
    go_ret2
    exact ⟨none, 0, by rw [HW.out]; rfl, by rw [HW.out]; exact sl_none16 _, hb1⟩
/-- One more name behind. -/
theorem glue_next (x : UInt8) (l : List (List UInt8)) (k : Nat) (hk : 0 < k) (h : k < l.length) : glueL x (l.take (k + 1)) = glueL x (l.take k) ++ (x :: l.getD k []) := by
  have e : l.take (k + 1) = l.take k ++ [l.getD k []] := by
    rw [List.take_add_one, List.getD_eq_getElem?_getD, List.getElem?_eq_getElem h]; rfl
  rw [e, glueL_app x _ _ (by intro h0; have := congrArg List.length h0; rw [List.length_take, List.length_nil] at this; omega) (by simp)]
  rfl
theorem glue_len (x : UInt8) (l : List (List UInt8)) : (glueL x l).length ≤ sumS l := by
  induction l with
  | nil => exact Nat.zero_le _
  | cons p ps ih =>
    by_cases he : ps = []
    · subst he
      show p.length ≤ _
      unfold sumS; simp
    · rw [glueL_cons x p ps he, List.length_append, List.length_cons]
      have e : sumS (p :: ps) = (p.length + 1) + sumS ps := by unfold sumS; simp
      omega
theorem tail_strs (A : Option Addr) (c : Nat) (l : List (List UInt8)) (w0 : World) (h : Sl w0 A c (strsV l)) (n : Nat) (hn : l.length = n + 1) :
    ∃ b o A', A = some ⟨b, o, none⟩ ∧ (∀ w, (Instr.sliceAt 23 (.slice (some ⟨b, o, none⟩) (n + 1) c) (some (.int .i64 1)) none none).run Tryd.prog w = .ok (.slice A' n (c - 1)) w) ∧ Sl w0 A' (c - 1) (strsV (l.drop 1)) := by
  have hr := h.room
  rw [length_strsV] at hr
  obtain ⟨b, o, rfl, hlt, _⟩ := h.rd.get (i := 0) (by rw [length_strsV]; omega)
  refine ⟨b, o, some (if c = 1 then ⟨b, o, none⟩ else ⟨b, o + 1, none⟩), rfl, fun w => ?_, ?_⟩
  · have h3 : (n : Int) + 1 ≤ (c : Int) := by omega
    clear h hr hlt hn
    have h1 : ((n : Int) + 1 - 1).toNat = n := by omega
    go_simp
    rw [if_pos (by omega)]
    split <;> rfl
  · rw [strsV_drop]
    exact h.from (k := 1) (by rw [length_strsV]; omega) rfl
set_option maxHeartbeats 2000000 in
theorem rjoin16_any (l : List (List UInt8)) (hl : sumS l ≤ 100000) (A : Option Addr) (c : Nat) (w : World) (hsl : Sl w A c (strsV l)) :
    Calls Tryd.prog 17 #[.slice A l.length c] w fun e w' => e = .returned (.string (bstr (joinL16 l))) ∧ w = w' := by
  have hll := sumS_len l
  have hri := Lib.hid (rrise_any l (by omega) (fun p hp => by have := sumS_mem l p hp; omega) A c w hsl)
  have HV := Lib.hid (show joinL16 l = if riseL l = true then glueL 44 l else [] from rfl)
  generalize joinL16 l = V at *
  cases hr : riseL l with
  | false =>
    have HW := Lib.hid (HV.out.trans (if_neg (by rw [hr]; decide)))
    rw [hr] at hri
    clear HV hr
    go_enter Tryd.func17, Tryd.ntmps17
    go_wp2_with (go_at_call 28; refine hri.out.mono ?_; rintro e w' ⟨rfl, rfl⟩)
    go_ret
    exact ⟨by rw [HW.out]; rfl, rfl⟩
  | true =>
    have HW := Lib.hid (HV.out.trans (if_pos hr))
    have hpos : 1 ≤ l.length := ((riseL_at l).1 hr).1
    obtain ⟨n, hn⟩ : ∃ n, l.length = n + 1 := ⟨l.length - 1, by omega⟩
    obtain ⟨b, o, A1, rfl, hcut, hsl1⟩ := tail_strs A c l w hsl n hn
    have hix0 := index_strs (some ⟨b, o, none⟩) b o (n + 1) c 0 rfl (by omega)
    have hce0 := strs_cell hsl 0 (by omega)
    have HG := Lib.hid (fun k (h0 : 0 < k) (h : k < l.length) => glue_next 44 l k h0 h)
    have HB := Lib.hid (fun k => show (glueL 44 (l.take k)).length ≤ 100000 from Nat.le_trans (glue_len 44 _) (Nat.le_trans (sumS_le l k) hl))
    have HM := Lib.hid (fun k (h : k < l.length) => show (l.getD k []).length ≤ 100000 from by
      have := sumS_mem l (l.getD k []) (by rw [List.getD_eq_getElem?_getD, List.getElem?_eq_getElem h]; exact List.getElem_mem h); omega)
    have HL1 := Lib.hid (show (l.drop 1).length = n by rw [List.length_drop]; omega)
    have HLn := Lib.hid hn
    have HS := Lib.hid (show glueL 44 (l.take 1) = l.getD 0 [] by
      cases l with
      | nil => simp at hpos
      | cons p ps => rfl)
    have HE := Lib.hid (show glueL 44 (l.take (n + 1)) = glueL 44 l by rw [← hn, List.take_length])
    have HD := Lib.hid (show ∀ k, (l.drop 1).getD k [] = l.getD (k + 1) [] by
      intro k; rw [List.getD_eq_getElem?_getD, List.getD_eq_getElem?_getD, List.getElem?_drop, Nat.add_comm])
    rw [hr, hn] at hri
    rw [hn]
    have hnb : n ≤ 100000 := by omega
    clear HV hr hpos hn hll hl hsl
    rw [Nat.add_zero] at hix0 hce0
    go_enter Tryd.func17, Tryd.ntmps17
    go_wp2_with (go_at_call 28; refine hri.out.mono ?_; rintro e w' ⟨rfl, rfl⟩)
    clear hix0 hce0 hri hcut
    go_loop [3, 15] (fun x i => ∃ k : Nat, k ≤ n ∧ i = .int .i64 k ∧ x = .string (bstr (glueL 44 (l.take (k + 1))))) (fun _ i => n - (intOf i).toNat)
    case atStart => exact ⟨0, by omega, rfl, by rw [HS.out, List.getD_eq_getElem?_getD]⟩
    case round =>
      obtain ⟨k, hk, rfl, rfl⟩ := hrel
      by_cases hlt : k < n
      · have hlt' : (k : Int) < (n : Int) := by omega
        have hk1 : k < (l.drop 1).length := by rw [HL1.out]; exact hlt
        obtain ⟨b1, o1, rfl, -, -⟩ := hsl1.rd.get (i := k) (by rw [length_strsV]; exact hk1)
        have hix := index_strs (some ⟨b1, o1, none⟩) b1 o1 n (c - 1) k rfl hlt
        have hce := strs_cell hsl1 k hk1
        rw [HD.out] at hce
        have hkl : k + 1 < l.length := by have := HLn.out; omega
        have HN := Lib.hid (HG.out (k + 1) (by omega) hkl)
        have hb1 := HB.out (k + 1)
        have hb2 := HM.out (k + 1) hkl
        generalize l.getD (k + 1) [] = p at *
        generalize glueL 44 (l.take (k + 1)) = g at *
        have hzg := size_bstr g
        have hzp := size_bstr p
        have hcm : ({ data := #[44] } : ByteArray) = bstr [44] := rfl
        have hzc : ({ data := #[44] } : ByteArray).size = 1 := rfl
        have hz2 : (({ data := #[44] } : ByteArray) ++ bstr p).size = p.length + 1 := by rw [hcm, bstr_cat12, size_bstr]; simp
        have HC := Lib.hid (show bstr g ++ (({ data := #[44] } : ByteArray) ++ bstr p) = bstr (glueL 44 (l.take (k + 1 + 1))) by rw [HN.out, hcm, bstr_cat12, bstr_cat12]; rfl)
        clear hkl hk1 hcm
        go_wp2
        go_round
        case rel => exact ⟨k + 1, by omega, by go_num, by rw [← HC.out]⟩
        case measure => simp [intOf]; omega
      · obtain rfl : k = n := by omega
        have HX := Lib.hid (HE.out.trans HW.out.symm)
        go_wp2
        go_ret
        exact ⟨by rw [HX.out]; rfl, rfl⟩
end Go.Proofs.YtbngnmhbnhpbeaaDoor
