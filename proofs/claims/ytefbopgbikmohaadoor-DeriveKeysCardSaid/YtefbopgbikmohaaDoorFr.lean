/- LAYER 6: frames of parts: the document's; the laws' bound on what is looked at. -/
import Derived.Test.YtefbopgbikmohaaDoorSs
import Derived.Test.YtefbopgbikmohaaDoorTn
namespace Go.Proofs.YtefbopgbikmohaaDoor
open Go Go.RowKit

/-- Each part behind its length. -/
def partL (l : List UInt8) : List UInt8 := eightL l.length ++ l
def frameL (ss : List (List UInt8)) : List UInt8 := ss.flatMap partL
theorem length_partL (l : List UInt8) : (partL l).length = 8 + l.length := by unfold partL; rw [List.length_append, length_eightL]
theorem frameL_succ (ss : List (List UInt8)) (k : Nat) (h : k < ss.length) : frameL (ss.take (k + 1)) = frameL (ss.take k) ++ partL (ss.getD k []) := by
  unfold frameL
  rw [List.take_add_one, List.flatMap_append]
  simp [h]
theorem frameL_append (ss qs : List (List UInt8)) : frameL (ss ++ qs) = frameL ss ++ frameL qs := by unfold frameL; rw [List.flatMap_append]
theorem frameL_le (ss : List (List UInt8)) (k : Nat) : (frameL (ss.take k)).length ≤ (frameL ss).length := by
  have e : ss = ss.take k ++ ss.drop k := (List.take_append_drop k ss).symm
  conv => rhs; rw [e]
  rw [frameL_append, List.length_append]; omega
theorem length_frameL (ss : List (List UInt8)) : (frameL ss).length ≤ 8 * sumS ss := by
  unfold frameL sumS
  induction ss with
  | nil => simp
  | cons l ss ih => simp only [List.flatMap_cons, List.map_cons, List.sum_cons, List.length_append, length_partL]; omega
set_option maxRecDepth 20000 in
theorem dgreat_any (A : Option Addr) (n c : Nat) (ss : List (List UInt8)) (w : World) (hs : Sl w A c (strsV ss)) (hn : n = ss.length) (hm : ss.length ≤ 9223372036854775807) (he : ∀ l ∈ ss, l.length ≤ 140737488355328) :
    Calls Tryd.prog 6 #[.slice A n c] w fun e w' => e = .returned (.bool (decide (300 < sumS ss))) ∧ w = w' := by
  subst hn
  go_enter Tryd.func6, Tryd.ntmps6
  go_wp2
  go_loop [3, 8] (fun x i => ∃ k : Nat, k ≤ ss.length ∧ i = .int .i64 k ∧ x = .int .i64 (sumS (ss.take k) : Nat) ∧ sumS (ss.take k) ≤ 300) (fun _ i => ss.length - (intOf i).toNat)
  case atStart => exact ⟨0, by omega, rfl, rfl, by simp [sumS]⟩
  case round =>
    obtain ⟨k, hk, rfl, rfl, hx⟩ := hrel
    by_cases hlt : k < ss.length
    · obtain ⟨b, o, rfl, hb0, hr0⟩ := hs.rd.get (i := 0) (by rw [length_strsV]; omega)
      clear hb0 hr0
      have hix := index_strs (some ⟨b, o, none⟩) b o ss.length c k rfl hlt
      have hc := strs_cell hs k hlt
      have hle := he (ss.getD k []) (by rw [List.getD_eq_getElem?_getD, List.getElem?_eq_getElem hlt]; exact List.getElem_mem hlt)
      have HS := Lib.hid (sumS_succ ss k hlt)
      have HL := Lib.hid (sumS_le ss (k + 1))
      have hz := size_bstr (ss.getD k [])
      generalize sumS (ss.take k) = x at *
      have hzl : (bstr (ss.getD k [])).size ≤ 140737488355328 := by rw [hz]; exact hle
      rw [← hz] at HS
      generalize bstr (ss.getD k []) = S at *
      clear hz hle hs he
      by_cases hbig : 300 < x + (S.size + 1)
      · have HD := Lib.hid (show decide (300 < sumS ss) = true from decide_eq_true (by have := HL.out; have := HS.out; omega))
        have hb' : (300 : Int) < (x : Int) + ((S.size : Int) + 1) := by omega
        go_wp2
        go_ret
        exact ⟨by rw [HD.out]; rfl, rfl⟩
      · have hb' : (x : Int) + ((S.size : Int) + 1) ≤ 300 := by omega
        have HB := Lib.hid hbig
        clear hbig
        go_wp2

        go_round
        case rel => exact ⟨k + 1, by omega, by go_num, by rw [HS.out]; go_num, by rw [HS.out]; omega⟩
        case measure => simp [intOf]; omega
    · obtain rfl : k = ss.length := by omega
      have HD := Lib.hid (show decide (300 < sumS ss) = false from decide_eq_false (by rw [List.take_length] at hx; omega))
      clear hs he hk hlt
      generalize sumS (ss.take ss.length) = x at *
      generalize ss.length = n at *
      go_wp2
      go_ret
      exact ⟨by rw [HD.out]; rfl, rfl⟩
end Go.Proofs.YtefbopgbikmohaaDoor
