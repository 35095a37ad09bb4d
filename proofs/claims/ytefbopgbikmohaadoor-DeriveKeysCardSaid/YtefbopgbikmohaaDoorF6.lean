/- LAYER 6: the document's frame and key. -/
import Derived.Test.YtefbopgbikmohaaDoorFr
import Derived.Test.YtefbopgbikmohaaDoorHr
namespace Go.Proofs.YtefbopgbikmohaaDoor
open Go Go.RowKit

set_option maxRecDepth 20000 in
set_option maxHeartbeats 1000000 in
theorem rframe_any (A : Option Addr) (n c : Nat) (ss : List (List UInt8)) (w : World) (hs : Sl w A c (strsV ss)) (hn : n = ss.length) (hm : sumS ss ≤ 1000000000) :
    Calls Tryd.prog 8 #[.slice A n c] w (GaveBytes (frameL ss) w) := by
  subst hn
  obtain ⟨i0, hi, hz0, hz1, hz2⟩ := info_parts infoByte
  have hl1 := sumS_len ss
  have hown0 : (w.alloc (.cells #[] 5)).ownsRow w.heap.size 5 1 (.slice (some ⟨w.heap.size, 0, none⟩) 0 0) 0 [] := World.ownsRow_lit w #[] 0 (Nat.le_refl _) (by unfold maxLen; omega) rfl
  have hb0 := (Below.refl w.heap.size w).alloc (Nat.le_refl _) (.cells #[] 5)
  go_enter Tryd.func8, Tryd.ntmps8
  go_wp2_with fail
  go_loopw [3, 9] (fun v i wr => ∃ k : Nat, k ≤ ss.length ∧ i = .int .i64 k ∧ wr.ownsRow w.heap.size 5 1 v (frameL (ss.take k)).length (byts (frameL (ss.take k))) ∧ Below w.heap.size w wr) (fun _ i _ => ss.length - (intOf i).toNat)
  case atStart => exact ⟨0, by omega, rfl, hown0, hb0⟩
  case round =>
    clear hown0 hb0
    obtain ⟨k, hk, rfl, hown, hb⟩ := hrel
    by_cases hlt : k < ss.length
    · obtain ⟨b, o, rfl, hb0, hr0⟩ := hs.rd.get (i := 0) (by rw [length_strsV]; omega)
      clear hb0 hr0
      have hix := index_strs (some ⟨b, o, none⟩) b o ss.length c k rfl hlt
      have hc := strs_cell (hs.later (Nat.le_refl _) hb) k hlt
      have HS := Lib.hid (frameL_succ ss k hlt)
      have hq1 := sumS_mem ss (ss.getD k []) (by rw [List.getD_eq_getElem?_getD, List.getElem?_eq_getElem hlt]; exact List.getElem_mem hlt)
      have hF := frameL_le ss k
      have hF2 := length_frameL ss
      generalize ss.getD k [] = q at *
      generalize frameL (ss.take k) = F at *
      have hz := size_bstr q
      have n1 : F.length + (eightL q.length).length ≤ maxLen := by rw [length_eightL]; unfold maxLen; omega
      have n2 : (F.length + (eightL q.length).length) * 1 ≤ 140737488355328 := by rw [length_eightL]; omega
      have m1 : F.length + (eightL q.length).length + q.length ≤ maxLen := by rw [length_eightL]; unfold maxLen; omega
      have m2 : (F.length + (eightL q.length).length + q.length) * 1 ≤ 140737488355328 := by rw [length_eightL]; omega
      have hql : (q.length : Int) ≤ 1000000000 := by omega
      have hnum := rnumber_any q.length (by omega)
      have HL8 := Lib.hid (show (eightL q.length).length = (byts (eightL q.length)).length from (length_byts _).symm)
      have HLq := Lib.hid (show q.length = (byts q).length from (length_byts q).symm)
      have HP := Lib.hid (show partL q = eightL q.length ++ q from rfl)
      have hbs := hb.size
      clear hq1 hF hF2
      generalize eightL q.length = e8 at *
      go_wp2_with (first
        | (go_at_call 12; refine (hnum _).mono ?_; rintro e w1 ⟨v1, rfl, hown1, hb1⟩; obtain ⟨A1, c1, rfl, _, hsl1⟩ := Sl.of_own hown1; have hownF := own_later hown hb1 (Nat.le_refl _); have hbw1 := hb.trans (hb1.mono hbs); clear hown1)
        | (at_builtin; refine wpList_append_sl rfl (.tmp 13) (.tmp 17) 27 rfl w.heap.size 5 i0 _ 1 Tryd.underlying27 hi hz0 hz1 hz2 rfl _ F.length (byts F) rfl hownF A1 e8.length c1 (byts e8) rfl HL8.out hsl1 (byts_one _) n1 n2 hbw1.size ?_; intro v2 w2 hown2 hg2; have hbw2 : Below w.heap.size w w2 := hbw1.grown hg2 hbw1.size (fun k hk => (hownF.lt k hk).1); clear hg2 hownF hsl1)
        | (refine wpList_conv_string rfl (.tmp 20) rfl q rfl ?_; intro A3 c3 w3 hsl3 hb3; have hown3 := own_later hown2 hb3 (Nat.le_refl _); have hbw3 := hbw2.trans (hb3.mono hbw2.size); clear hown2 hb3)
        | (at_builtin; refine wpList_append_sl rfl (.tmp 19) (.tmp 21) 27 rfl w.heap.size 5 i0 _ 1 Tryd.underlying27 hi hz0 hz1 hz2 rfl _ (F.length + e8.length) (byts F ++ byts e8) rfl hown3 A3 q.length c3 (byts q) rfl HLq.out hsl3 (byts_one _) m1 m2 hbw3.size ?_; intro v4 w4 hown4 hg4; have hbw4 : Below w.heap.size w w4 := hbw3.grown hg4 hbw3.size (fun k hk => (hown3.lt k hk).1)))
      go_roundw
      case rel =>
        refine ⟨k + 1, by omega, by go_num, ?_, hbw4⟩
        rw [HS.out, HP.out]
        have e1 : byts F ++ byts e8 ++ byts q = byts (F ++ (e8 ++ q)) := by rw [byts_append, byts_append, List.append_assoc]
        have e2 : F.length + e8.length + q.length = (F ++ (e8 ++ q)).length := by simp only [List.length_append]; omega
        rw [e1, e2] at hown4
        exact hown4
      case measure => simp [intOf]; omega
    · obtain rfl : k = ss.length := by omega
      rw [List.take_length] at hown
      clear hlt hk hs
      generalize ss.length = n at *
      go_wp2
      go_ret
      exact ⟨_, rfl, hown, hb⟩
end Go.Proofs.YtefbopgbikmohaaDoor
