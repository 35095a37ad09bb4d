/- LAYER 16: the document's split: a text's pieces between a sign. -/
import Derived.Test.YtbngnmhbnhpbeaaDoorXn
import Derived.Test.YtbngnmhbnhpbeaaDoorXl
import Derived.Test.YtbngnmhbnhpbeaaDoorWd
import Derived.Test.YtbngnmhbnhpbeaaDoorBg
import Derived.Test.YtbngnmhbnhpbeaaDoorAf
import Derived.Test.YtbngnmhbnhpbeaaDoorO6
namespace Go.Proofs.YtbngnmhbnhpbeaaDoor
set_option maxRecDepth 100000
open Go Go.RowKit

set_option maxHeartbeats 2000000 in
theorem rsplit16_any (s : List UInt8) (x : UInt8) (hs : s.length ≤ 4000) (w : World) :
    Calls Tryd.prog 23 #[.string (bstr s), .int .u8 (x.toNat : Int)] w fun e w' => ∃ v, e = .returned v ∧ w'.ownsRow w.heap.size 9 1 v (splitL x s).length (strsV (splitL x s)) ∧ Below w.heap.size w w' := by
  obtain ⟨i0, hi, hz0, hz1, hz2⟩ := info_parts infoStr
  have hz := size_bstr s
  have hown0 : (w.alloc (.cells #[] 9)).ownsRow w.heap.size 9 1 (.slice (some ⟨w.heap.size, 0, none⟩) 0 0) 0 (strsV []) := World.ownsRow_lit w (e := 9) (size := 1) #[] 0 (Nat.le_refl _) (by unfold maxLen; omega) rfl
  have hb0 : Below w.heap.size w (w.alloc (.cells #[] 9)) := (Below.refl _ w).alloc (Nat.le_refl _) _
  go_enter Tryd.func23, Tryd.ntmps23
  go_wp2
  go_loopw [5, 6, 7] (fun v f i wr => ∃ (out : List (List UInt8)) (g k : Nat), k ≤ s.length + 1 ∧ g ≤ k ∧ i = .int .i64 k ∧ f = .int .i64 g ∧ wr.ownsRow w.heap.size 9 1 v out.length (strsV out) ∧ Below w.heap.size w wr ∧ out.length ≤ k ∧
      (k ≤ s.length ∧ out ++ splitL x (s.drop g) = splitL x s ∧ (∀ c ∈ (s.drop g).take (k - g), c ≠ x) ∨ k = s.length + 1 ∧ out = splitL x s)) (fun _ _ i _ => s.length + 1 - (intOf i).toNat)
  case atStart => exact ⟨[], 0, 0, by omega, by omega, rfl, rfl, hown0, hb0, by simp, .inl ⟨by omega, rfl, by simp⟩⟩
  case round =>
    clear hown0 hb0
    obtain ⟨out, g, k, hk, hg, rfl, rfl, hown, hb, hol, hcase⟩ := hrel
    by_cases hlt : k ≤ s.length
    · obtain ⟨-, hsp, hno⟩ : k ≤ s.length ∧ out ++ splitL x (s.drop g) = splitL x s ∧ (∀ c ∈ (s.drop g).take (k - g), c ≠ x) := by
        rcases hcase with h | ⟨h, _⟩
        · exact h
        · omega
      have hlt' : (k : Int) ≤ (s.length : Int) := by omega
      have hg' : (g : Int) ≤ (k : Int) := by omega
      have hex := extract_bstr12 s g k
      have hbs := hb.size
      have n1 : out.length + 1 ≤ maxLen := by unfold maxLen; omega
      have n2 : (out.length + 1) * 16 ≤ 140737488355328 := by omega
      by_cases he : k = s.length
      · have heb : ((k : Int) == (s.length : Int)) = true := by rw [he]; exact beq_self_eq_true _
        have HF := Lib.hid (show out ++ [(s.drop g).take (k - g)] = splitL x s by
          have e : (s.drop g).take (k - g) = s.drop g := by rw [List.take_of_length_le]; rw [List.length_drop]; omega
          rw [e] at hno ⊢
          rw [← hsp, splitL_end x _ hno])
        have HK := Lib.hid he
        generalize (s.drop g).take (k - g) = p at *
        clear hcase hsp hno he
        have hslp : Sl (wr.alloc (.cells #[.string (bstr p)] 9)) (some ⟨wr.heap.size, 0, none⟩) 1 (strsV [p]) := sl_made (strsV [p]) rfl 1 rfl
        have howna := hown.alloc (.cells #[.string (bstr p)] 9)
        have hbe := hb.alloc hb.size (.cells #[.string (bstr p)] 9)
        go_wp2_with (at_builtin; refine wpList_append_sl rfl (.tmp 26) (.tmp 31) 23 rfl w.heap.size 9 i0 _ 16 Tryd.underlying23 hi hz0 hz1 hz2 rfl _ out.length (strsV out) rfl howna (some ⟨wr.heap.size, 0, none⟩) 1 1 (strsV [p]) rfl rfl hslp (strsV_one _) n1 n2 hbe.size ?_; intro v3 w3 hown3 hg3; have hb3 := hbe.grown hg3 hbe.size (fun j hj => (howna.lt j hj).1); rw [← strsV_append] at hown3)
        go_roundw
        case rel => exact ⟨out ++ [p], k + 1, k + 1, by omega, by omega, by go_num, by go_num, by rw [List.length_append]; exact hown3, hb3, by rw [List.length_append]; simp; omega, .inr ⟨by rw [HK.out], HF.out⟩⟩
        case measure => simp [intOf]; omega
      · have heb : ((k : Int) == (s.length : Int)) = false := by rw [beq_eq_false_iff_ne]; omega
        have hlt2 : k < s.length := by omega
        have hix := index_bstr s k hlt2
        by_cases hc : s.getD k 0 = x
        · have e2 : splitL x (s.drop g) = (s.drop g).take (k - g) :: splitL x (s.drop (k + 1)) := by
            conv => lhs; rw [drop_piece s g k hg hlt2, hc]
            exact splitL_hit x _ _ hno
          have HF := Lib.hid (show (out ++ [(s.drop g).take (k - g)]) ++ splitL x (s.drop (k + 1)) = splitL x s by
            rw [← hsp, e2, List.append_assoc]; rfl)
          rw [hc] at hix
          generalize (s.drop g).take (k - g) = p at *
          clear hcase hsp hno hc e2
          have hslp : Sl (wr.alloc (.cells #[.string (bstr p)] 9)) (some ⟨wr.heap.size, 0, none⟩) 1 (strsV [p]) := sl_made (strsV [p]) rfl 1 rfl
          have howna := hown.alloc (.cells #[.string (bstr p)] 9)
          have hbe := hb.alloc hb.size (.cells #[.string (bstr p)] 9)
          go_wp2_with (at_builtin; refine wpList_append_sl rfl (.tmp 26) (.tmp 31) 23 rfl w.heap.size 9 i0 _ 16 Tryd.underlying23 hi hz0 hz1 hz2 rfl _ out.length (strsV out) rfl howna (some ⟨wr.heap.size, 0, none⟩) 1 1 (strsV [p]) rfl rfl hslp (strsV_one _) n1 n2 hbe.size ?_; intro v3 w3 hown3 hg3; have hb3 := hbe.grown hg3 hbe.size (fun j hj => (howna.lt j hj).1); rw [← strsV_append] at hown3)
          go_roundw
          case rel => exact ⟨out ++ [p], k + 1, k + 1, by omega, by omega, by go_num, by go_num, by rw [List.length_append]; exact hown3, hb3, by rw [List.length_append]; simp; omega, .inl ⟨by omega, HF.out, by simp⟩⟩
          case measure => simp [intOf]; omega
        · have HN := Lib.hid (show ∀ c ∈ (s.drop g).take (k + 1 - g), c ≠ x by
            rw [take_piece s g k hg hlt2]
            intro c hcm
            rcases List.mem_append.1 hcm with h | h
            · exact hno c h
            · rw [List.mem_singleton.1 h]; exact hc)
          have HS := Lib.hid hsp
          have hxc : (((s.getD k 0).toNat : Int) == (x.toNat : Int)) = false := by
            rw [beq_eq_false_iff_ne]
            intro h
            exact hc (UInt8.toNat_inj.1 (by omega))
          generalize s.getD k 0 = y at *
          clear hcase hsp hno hc hex
          go_wp2
          go_roundw
          case rel => exact ⟨out, g, k + 1, by omega, by omega, by go_num, rfl, hown, hb, by omega, .inl ⟨by omega, HS.out, HN.out⟩⟩
          case measure => simp [intOf]; omega
    · obtain rfl : k = s.length + 1 := by omega
      obtain rfl : out = splitL x s := by
        rcases hcase with ⟨h, _⟩ | ⟨_, h⟩
        · omega
        · exact h
      have hgt : (s.length : Int) < ((s.length + 1 : Nat) : Int) := by omega
      clear hcase
      go_wp2
      go_ret
      exact ⟨_, rfl, hown, hb⟩
end Go.Proofs.YtbngnmhbnhpbeaaDoor
