/- LAYER 12: the document's join: numbers' digits with colons between. -/
import Derived.Test.YtflebnbpoboljaaDoorIz
namespace Go.Proofs.YtflebnbpoboljaaDoor
set_option maxRecDepth 100000
open Go Go.RowKit

theorem joinN_len (l : List Nat) (h : ∀ n ∈ l, n ≤ 65535) : (joinN l).length ≤ 5 * l.length := by
  induction l with
  | nil => exact Nat.le_refl _
  | cons n l ih =>
    have hn := numL_len 16 (by omega) 3 n (by have := h n (List.mem_cons_self ..); omega)
    cases l with
    | nil => show (numL 16 n).length ≤ _; simp; omega
    | cons m l =>
      have := ih (fun q hq => h q (List.mem_cons_of_mem _ hq))
      show (numL 16 n ++ 58 :: joinN (m :: l)).length ≤ _
      simp only [List.length_append, List.length_cons] at this ⊢
      omega
theorem joinN_take (l : List Nat) (k : Nat) (h : k < l.length) : joinN (l.take (k + 1)) = if k = 0 then numL 16 (l.getD k 0) else joinN (l.take k) ++ [58] ++ numL 16 (l.getD k 0) := by
  have e : l.take (k + 1) = l.take k ++ [l.getD k 0] := by rw [List.take_add_one]; simp [h]
  rw [e, joinN_snoc]
  by_cases hk : k = 0
  · rw [if_pos hk, if_pos (by rw [hk]; rfl)]
  · rw [if_neg hk, if_neg (by intro h0; have := congrArg List.length h0; rw [List.length_take, List.length_nil] at this; omega)]
    simp
set_option maxHeartbeats 1000000 in
theorem rjoin_any (l : List Nat) (hm : ∀ n ∈ l, n ≤ 65535) (hl : l.length ≤ 1000000) (A : Option Addr) (c : Nat) (w : World) (hs : Sl w A c (intsV l)) :
    Calls Tryd.prog 45 #[.slice A l.length c] w fun e w' => e = .returned (.string (bstr (joinN l))) ∧ Below w.heap.size w w' := by
  go_enter Tryd.func45, Tryd.ntmps45
  go_wp2
  go_loopw [3, 8] (fun v i wr => ∃ k : Nat, k ≤ l.length ∧ i = .int .i64 k ∧ v = .string (bstr (joinN (l.take k))) ∧ Below w.heap.size w wr) (fun _ i _ => l.length - (intOf i).toNat)
  case atStart => exact ⟨0, by omega, rfl, rfl, Below.refl _ _⟩
  case round =>
    obtain ⟨k, hk, rfl, rfl, hb⟩ := hrel
    by_cases hlt : k < l.length
    · have hlt' : (k : Int) < (l.length : Int) := by omega
      obtain ⟨b, o, hA, -, -⟩ := hs.rd.get (i := k) (by rw [length_intsV]; exact hlt)
      have hix := index_ints A b o l.length c k hA hlt
      have hce := ints_cell (by rw [hA] at hs; exact hs.later (Nat.le_refl _) hb) k hlt
      have hJ := joinN_take l k hlt
      have hx : l.getD k 0 ≤ 65535 := hm _ (by rw [List.getD_eq_getElem?_getD, List.getElem?_eq_getElem hlt]; exact List.getElem_mem hlt)
      have hn := Lib.hid (fun w' => rnum16_any (l.getD k 0) (l.getD k 0) w' (Nat.le_refl _) (by omega))
      have hnl := numL_len 16 (by omega) 3 (l.getD k 0) (by omega)
      have hjl := joinN_len (l.take k) (fun n hn => hm n (List.mem_of_mem_take hn))
      rw [List.length_take] at hjl
      generalize l.getD k 0 = x at *
      generalize numL 16 x = X at *
      have hz : (bstr (joinN (l.take k))).size = (joinN (l.take k)).length := size_bstr _
      by_cases h0 : k = 0
      · rw [if_pos h0] at hJ
        have hce0 : wr.cell? ⟨b, o, none⟩ = some (.int .i64 (x : Nat)) := by rw [h0] at hce; exact hce
        have hpos : 0 < l.length := by omega
        have hix0 : ∀ w, (Instr.indexAt 55 (.slice A l.length c) (.int .i64 0)).run Tryd.prog w = .ok (.pointer (some ⟨b, o, none⟩)) w := by rw [h0] at hix; exact hix
        have HJ := Lib.hid (show joinN (l.take (k + 1)) = joinN (l.take k) ++ X by rw [hJ, h0]; rfl)
        generalize joinN (l.take k) = J at *
        have hzX : (bstr X).size = X.length := size_bstr _
        clear hJ hs hA
        go_wp2_with (go_at_call 43; refine (hn.out _).mono ?_; rintro e w1 ⟨rfl, hb1⟩)
        go_roundw
        case rel => exact ⟨k + 1, by omega, by rw [h0]; go_num, by rw [HJ.out, ← bstr_cat12], hb.trans (hb1.mono hb.size)⟩
        case measure => simp [intOf]; omega
      · rw [if_neg h0] at hJ
        have h0' : (0 : Int) < (k : Int) := by omega
        have HJ := Lib.hid hJ
        generalize joinN (l.take k) = J at *
        have hzX : (bstr X).size = X.length := size_bstr _
        clear hJ hs hA
        go_wp2_with (go_at_call 43; refine (hn.out _).mono ?_; rintro e w1 ⟨rfl, hb1⟩)
        go_roundw
        case rel => exact ⟨k + 1, by omega, by go_num, by rw [HJ.out, ← bstr_cat12, ← bstr_cat12]; rfl, hb.trans (hb1.mono hb.size)⟩
        case measure => simp [intOf]; omega
    · obtain rfl : k = l.length := by omega
      go_wp2
      go_ret
      exact ⟨by rw [List.take_length]; rfl, hb⟩
end Go.Proofs.YtflebnbpoboljaaDoor
