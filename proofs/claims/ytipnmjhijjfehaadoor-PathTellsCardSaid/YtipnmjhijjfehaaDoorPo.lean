/- LAYER 14: package path's along. -/
import Derived.Test.YtipnmjhijjfehaaDoorPn
import Derived.Test.YtipnmjhijjfehaaDoorRb
import Derived.Lib.AppendStr
namespace Go.Proofs.YtipnmjhijjfehaaDoor
set_option maxRecDepth 100000
open Go Go.RowKit Go.Lib

theorem own_take {w : World} {base t n c : Nat} {A : Option Addr} {xs : List Value} (h : w.ownsRow base t 1 (.slice A n c) n xs) (k : Nat) (hk : k ≤ n) (hA : A ≠ none) : w.ownsRow base t 1 (.slice A k c) k (xs.take k) := by
  obtain ⟨hl, h | ⟨g, cap, cur, e, hg, hb, hc, hm, hs, ht⟩⟩ := h
  · exact absurd (by injection h.1) hA
  · cases e
    refine ⟨by rw [List.length_take, hl]; omega, .inr ⟨g, c, cur, rfl, hg, hb, Nat.le_trans hk hc, hm, hs, ?_⟩⟩
    rw [← ht, List.take_take]
    congr 1
    omega
theorem own_keeps {w w' : World} {base t n : Nat} {v : Value} {xs : List Value} (h : w.ownsRow base t 1 v n xs) (hg : w.grownBy w' v.ownBlock) : KeepsOthers w w' := by
  refine KeepsOthers.of_grownBy hg fun j o e ho => ?_
  obtain ⟨-, h | ⟨g, cap, cur, rfl, -, hb, -⟩⟩ := h
  · rw [h.1] at e; cases e
  · have e : g = j := by simpa [Value.ownBlock] using e
    subst e
    rw [hb] at ho; cases ho; rfl
theorem cut_own (A : Option Addr) (c n k : Nat) (hA : A ≠ none) (hk : k ≤ c) (w : World) : (Instr.sliceAt 32 (.slice A n c) none (some (.int .i64 (k : Int))) none).run Tryd.prog w = .ok (.slice A k c) w := by
  cases A with
  | none => exact absurd rfl hA
  | some a =>
    have h2 : (k : Int) ≤ (c : Int) := by omega
    clear hA hk
    go_simp
theorem last_at (a b : List UInt8) (hb : ∀ x ∈ b, x ≠ 47) (k : Nat) (h1 : a.length < k) (h2 : k < (a ++ 47 :: b).length) : (a ++ 47 :: b).getD k 0 ≠ 47 := by
  rw [List.length_append, List.length_cons] at h2
  rw [List.getD_eq_getElem?_getD, List.getElem?_append_right (by omega)]
  obtain ⟨m, hm⟩ : ∃ m, k - a.length = m + 1 := ⟨k - a.length - 1, by omega⟩
  rw [hm, List.getElem?_cons_succ, List.getElem?_eq_getElem (by omega)]
  exact hb _ (List.getElem_mem _)
set_option maxHeartbeats 2000000 in
theorem alast_any (X a b : List UInt8) (hX : X = a ++ 47 :: b) (hb : ∀ x ∈ b, x ≠ 47) (hl : X.length ≤ 1000000) (A : Option Addr) (c : Nat) (w : World) (hs : Sl w A c (byts X)) :
    Calls Tryd.prog 24 #[.slice A X.length c, .int .u8 47] w fun e w' => e = .returned (.int .i64 a.length) ∧ w = w' := by
  have h : Calls Tryd.prog 32 #[.slice A X.length c, .int .u8 47] w fun e w' => e = .returned (.int .i64 a.length) ∧ w = w' := by
    have hL := Lib.hid (show ∀ k, a.length < k → k < X.length → X.getD k 0 ≠ 47 from fun k h1 h2 => by subst hX; exact last_at a b hb k h1 h2)
    have hE := Lib.hid (show X.getD a.length 0 = 47 by rw [hX, List.getD_eq_getElem?_getD, List.getElem?_append_right (Nat.le_refl _), Nat.sub_self]; rfl)
    have hlt : a.length < X.length := by rw [hX, List.length_append, List.length_cons]; omega
    clear hb hX
    obtain ⟨n, hn⟩ : ∃ n, n = X.length - 1 := ⟨_, rfl⟩
    have hw0 : IntKind.i64.wrap ((X.length : Int) - 1) = (n : Int) := by rw [IntKind.wrap_i64]; omega
    have HN := Lib.hid hn
    clear hn
    go_enter Tryd.func32, Tryd.ntmps32
    go_wp2
    go_loop [5] (fun i => ∃ k : Nat, a.length ≤ k ∧ k < X.length ∧ i = .int .i64 k) (fun i => (intOf i).toNat)
    case atStart => exact ⟨n, by have := HN.out; omega, by have := HN.out; omega, rfl⟩
    case round =>
      obtain ⟨k, hk1, hk2, rfl⟩ := hrel
      have h0 : (0 : Int) ≤ (k : Int) := by omega
      obtain ⟨b', o, hA, -, hce⟩ := hs.rd.get (i := k) (by rw [length_byts]; exact hk2)
      have hix := index_bytes A b' o X.length c k hA hk2
      rw [get_byts X k hk2] at hce
      by_cases he : k = a.length
      · subst he
        rw [hE.out] at hce
        have hce' : w.cell? ⟨b', o + a.length, none⟩ = some (.int .u8 47) := hce
        clear hce
        go_wp2
        go_ret
        exact ⟨rfl, rfl⟩
      · have hne := hL.out k (by omega) hk2
        have hne' : (((X.getD k 0).toNat : Int) == 47) = false := by
          rw [beq_eq_false_iff_ne]
          intro h
          exact hne (UInt8.toNat_inj.1 (by rw [show (47 : UInt8).toNat = 47 from rfl]; omega))
        generalize X.getD k 0 = y at *
        have hw1 : IntKind.i64.wrap ((k : Int) - 1) = (k : Int) - 1 := by rw [IntKind.wrap_i64]; omega
        clear hne
        go_wp2
        go_round
        case rel => exact ⟨k - 1, by omega, by omega, by congr 1; omega⟩
        case measure => simp [intOf]; omega
  clear hX hb
  go_enter Tryd.func24, Tryd.ntmps24
  go_wp2_with (go_at_call 32; refine h.mono ?_; rintro e w' ⟨rfl, rfl⟩)
  go_ret
  exact ⟨rfl, rfl⟩
theorem infoU8 : (Tryd.prog.info? 5).map (fun i => (i.zero, i.size, i.bytes)) = some (some (.int .u8 0), 1, 1) := by kernel_rfl
/-- What along answers: the bytes that are left of the names, or none. -/
def GaveAlong (base : Nat) (r : Option (List (List UInt8))) (W : World) (e : Ending) (w' : World) : Prop :=
  (match r with
    | none => e = .returned (.tuple #[.slice none 0 0, .bool false])
    | some k => ∃ v', e = .returned (.tuple #[v', .bool true]) ∧ w'.ownsRow base 5 1 v' (flatP k).length (byts (flatP k))) ∧ KeepsOthers W w' ∧ Below base W w'
set_option maxHeartbeats 4000000 in
theorem along_any (l : List (List UInt8)) (hl : ∀ w ∈ l, nameL w = true) (x : List UInt8) (hx : x.length ≤ 1000) (W : World) (base : Nat) (v : Value) (hown : W.ownsRow base 5 1 v (flatP l).length (byts (flatP l))) (hbase : base ≤ W.heap.size) (hlen : (flatP l).length ≤ 1000000) :
    Calls Tryd.prog 17 #[v, .string (bstr x)] W (GaveAlong base (alongL l x) W) := by
  have hz := size_bstr x
  obtain ⟨A, c, rfl, hpl, hsl⟩ := Sl.of_own hown
  clear hpl
  have hroom := hsl.room
  rw [length_byts] at hroom
  have hkp := own_keeps hown (World.grownBy.refl W _)
  have e0 : (bstr x).toList.isEmpty = decide (x = []) := by rw [bstr_toList]; cases x <;> rfl
  have e1 := bstr_is' x [46]
  have e2 := bstr_is' x [46, 46]
  have HA := Lib.hid (show alongL l x = if x = [] ∨ x = [46] then some l else if x = [46, 46] then (if l = [] then none else some l.dropLast) else if nameL x then some (l ++ [x]) else none from rfl)
  generalize hr : alongL l x = r at *
  clear hr
  by_cases c0 : x = []
  · have HR := Lib.hid (show r = some l by rw [HA.out, if_pos (.inl c0)])
    rw [decide_eq_true c0] at e0
    clear HA c0 e1 e2
    go_enter Tryd.func17, Tryd.ntmps17
    go_wp2
    go_ret2
    rw [HR.out]
    exact ⟨⟨_, rfl, hown⟩, KeepsOthers.refl _, Below.refl _ _⟩
  rw [decide_eq_false c0] at e0
  by_cases c1 : x = [46]
  · have HR := Lib.hid (show r = some l by rw [HA.out, if_pos (.inr c1)])
    rw [decide_eq_true c1] at e1
    clear HA c0 c1 e2
    go_enter Tryd.func17, Tryd.ntmps17
    go_wp2
    go_ret2
    rw [HR.out]
    exact ⟨⟨_, rfl, hown⟩, KeepsOthers.refl _, Below.refl _ _⟩
  rw [decide_eq_false c1] at e1
  have HA2 := Lib.hid (HA.out.trans (if_neg (by rintro (h | h); exact c0 h; exact c1 h)))
  clear HA c0 c1
  have hn := fun w' => isname_any x w'
  by_cases c2 : x = [46, 46]
  · rw [decide_eq_true c2] at e2
    by_cases c3 : l = []
    · have HR := Lib.hid (show r = none by rw [HA2.out, if_pos c2, if_pos c3])
      have a3 : ((flatP l).length : Int) ≤ 0 := by rw [c3]; exact Int.le_refl _
      rw [show nameL x = false by rw [c2]; rfl] at hn
      have HC := Lib.hid hn
      clear HA2 c2 c3 hn
      go_enter Tryd.func17, Tryd.ntmps17
      go_wp2_with (go_at_call 25; refine (HC.out _).mono ?_; rintro e w' ⟨rfl, hb⟩)
      go_ret2
      rw [HR.out]
      exact ⟨rfl, KeepsOthers.of_grownBy (grown_of_below hb none) (fun j o e => by cases e), hb.mono hbase⟩
    · have HR := Lib.hid (show r = some l.dropLast by rw [HA2.out, if_pos c2, if_neg c3])
      have hF := flatP_last l c3
      have hb : ∀ y ∈ l.getLast c3, y ≠ 47 := name_47 _ (hl _ (List.getLast_mem c3))
      have hla := fun w' h => alast_any (flatP l) _ _ hF hb hlen A c w' h
      have HLA := Lib.hid (hla W hsl)
      have a3 : (0 : Int) < ((flatP l).length : Int) := by rw [hF, List.length_append, List.length_cons]; omega
      have hAn : A ≠ none := by
        rintro rfl
        have := hsl.bare rfl
        omega
      have hk1 : (flatP l.dropLast).length ≤ (flatP l).length := by rw [hF, List.length_append]; omega
      have hct := cut_own A c (flatP l).length (flatP l.dropLast).length hAn (by omega)
      have hot := own_take hown (flatP l.dropLast).length hk1 hAn
      rw [show (byts (flatP l)).take (flatP l.dropLast).length = byts (flatP l.dropLast) by unfold byts; rw [← List.map_take, hF, List.take_left']; rfl] at hot
      clear HA2 c2 hn hF hb hla hk1 hAn hroom hlen hl
      obtain ⟨m, hm⟩ : ∃ m, m = (flatP l.dropLast).length := ⟨_, rfl⟩
      rw [← hm] at HLA hct hot
      have HM := Lib.hid hm
      clear hm
      generalize (flatP l).length = n at *
      go_enter Tryd.func17, Tryd.ntmps17
      go_wp2_with (go_at_call 24; refine HLA.out.mono ?_; rintro e w' ⟨rfl, rfl⟩)
      go_ret2
      rw [HR.out]
      exact ⟨⟨_, rfl, HM.out ▸ hot⟩, KeepsOthers.refl _, Below.refl _ _⟩
  · rw [decide_eq_false c2] at e2
    cases c3 : nameL x with
    | false =>
      have HR := Lib.hid (show r = none by rw [HA2.out, if_neg c2, c3]; rfl)
      rw [c3] at hn
      have HC := Lib.hid hn
      clear HA2 c2 c3 hn
      go_enter Tryd.func17, Tryd.ntmps17
      go_wp2_with (go_at_call 25; refine (HC.out _).mono ?_; rintro e w' ⟨rfl, hb⟩)
      go_ret2
      rw [HR.out]
      exact ⟨rfl, KeepsOthers.of_grownBy (grown_of_below hb none) (fun j o e => by cases e), hb.mono hbase⟩
    | true =>
      have HR := Lib.hid (show r = some (l ++ [x]) by rw [HA2.out, if_neg c2, if_pos c3])
      have HF := Lib.hid (show flatP (l ++ [x]) = flatP l ++ 47 :: x by rw [flatP_app, flatP_one])
      rw [c3] at hn
      have HC := Lib.hid hn
      clear HA2 c2 c3 hn hl
      obtain ⟨i0, hi, hz0, hz1, hz2⟩ := info_parts infoU8
      have n1 : (flatP l).length + 1 ≤ maxLen := by unfold maxLen; omega
      have n2 : ((flatP l).length + 1) * 1 ≤ 140737488355328 := by omega
      have n3 : (flatP l).length + 1 + (bstr x).size ≤ maxLen := by unfold maxLen; omega
      have n4 : (flatP l).length + 1 + (bstr x).size ≤ 140737488355328 := by omega
      generalize flatP l = M at *
      go_enter Tryd.func17, Tryd.ntmps17
      have tok := trivial
      go_wp2_with (first
        | (go_at_call 25; refine (HC.out _).mono ?_; rintro e w1 ⟨rfl, hb⟩; have howna := (own_later hown hb (Nat.le_refl _)).alloc (.cells #[.int .u8 47] 5); have hslp : Sl (w1.alloc (.cells #[.int .u8 47] 5)) (some ⟨w1.heap.size, 0, none⟩) 1 (byts [47]) := sl_made (byts [47]) rfl 1 rfl; have hbe : Below base W (w1.alloc (.cells #[.int .u8 47] 5)) := (hb.mono hbase).alloc (Nat.le_trans hbase hb.size) _)
        | (at_builtin; have _t := tok; refine wpList_append_sl rfl (.tmp 29) (.tmp 30) 32 rfl base 5 i0 _ 1 Tryd.underlying32 hi hz0 hz1 hz2 rfl _ M.length (byts M) rfl howna (some ⟨w1.heap.size, 0, none⟩) 1 1 (byts [47]) rfl rfl hslp (byts_one _) n1 n2 (Nat.le_trans hbase hbe.size) ?_; intro v3 w3 hown3 hg3; have hb3 := hbe.grown hg3 (Nat.le_trans hbase hbe.size) (fun j hj => (howna.lt j hj).1); clear tok)
        | (at_builtin; refine wpList_append_own_string _ rfl (.tmp 31) (.tmp 32) 32 9 rfl base 5 i0 Tryd.underlying32 Tryd.underlying9 hi hz0 hz1 hz2 v3 (M.length + 1) (byts M ++ byts [47]) rfl hown3 (bstr x) rfl n3 n4 (Nat.le_trans hbase hb3.size) ?_; intro v4 w4 hown4 hg4 _; have hb4 := hb3.grown hg4 (Nat.le_trans hbase hb3.size) (fun j hj => (hown3.lt j hj).1)))
      go_ret2
      have e : byts M ++ byts [47] ++ strCells (bstr x) = byts (M ++ 47 :: x) := by
        rw [List.append_assoc, byts_append]; rfl
      have e2 : M.length + 1 + (bstr x).size = (M ++ 47 :: x).length := by rw [List.length_append, List.length_cons, size_bstr]; omega
      rw [e, e2] at hown4
      rw [HR.out]
      refine ⟨⟨_, rfl, by rw [HF.out]; exact hown4⟩, ?_, hb4⟩
      exact (((KeepsOthers.of_grownBy (grown_of_below hb none) (fun j o e => by cases e)).trans (KeepsOthers.alloc _ _)).trans (own_keeps howna hg3)).trans (own_keeps hown3 hg4)
end Go.Proofs.YtipnmjhijjfehaaDoor
