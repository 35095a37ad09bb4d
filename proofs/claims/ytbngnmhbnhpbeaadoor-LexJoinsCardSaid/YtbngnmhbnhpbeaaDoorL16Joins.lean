/- LAYER 16, LexJoins: the walk of the law. -/
import Derived.Test.YtbngnmhbnhpbeaaDoorXv
namespace Go.Proofs.YtbngnmhbnhpbeaaDoor
set_option maxRecDepth 100000
open Go Go.RowKit

set_option maxHeartbeats 8000000 in
theorem xjoins_walk (A : Option Addr) (n c : Nat) (ss : List (List UInt8)) (w : World) (hE : EnvX w) (hs : Sl w A c (strsV ss)) (hn : n = ss.length) (hm : ss.length ≤ 9223372036854775807) (he : ∀ l ∈ ss, l.length ≤ 140737488351232) :
    Calls Tryd.prog 4 #[.slice A n c] w fun e w' => e = .returned (.bool true) ∧ Below w.heap.size w w' := by
  subst hn
  obtain ⟨i0, hi, hz0, hz1, hz2⟩ := info_parts infoStr
  have hal := Lib.hid (xalive_any w hE)
  have hb : Below w.heap.size w w := Below.refl _ _
  go_enter Tryd.func4, Tryd.ntmps4
  go_wp2_with (go_at_call 6; refine hal.out.mono ?_; rintro e w1 ⟨rfl, hq⟩; have hs := hs.later (Nat.le_refl _) hq; have hb := hb.trans (hq.mono hb.size); have hEE := hE.next hb)
  go_loop [3, 13] (fun x i => ∃ k : Nat, k ≤ ss.length ∧ i = .int .i64 k ∧ x = .int .i64 (sumS (ss.take k) : Nat) ∧ sumS (ss.take k) ≤ 2000) (fun _ i => ss.length - (intOf i).toNat)
  case atStart => exact ⟨0, by omega, rfl, rfl, by simp [sumS]⟩
  case round =>
    obtain ⟨k, hk, rfl, rfl, hx⟩ := hrel
    by_cases hlt : k < ss.length
    · obtain ⟨b, o, rfl, hb0, hr0⟩ := hs.rd.get (i := 0) (by rw [length_strsV]; omega)
      clear hb0 hr0
      have hix := index_strs (some ⟨b, o, none⟩) b o ss.length c k rfl hlt
      have hce := strs_cell hs k hlt
      have hle := he (ss.getD k []) (by rw [List.getD_eq_getElem?_getD, List.getElem?_eq_getElem hlt]; exact List.getElem_mem hlt)
      have HS := Lib.hid (sumS_succ ss k hlt)
      have hz := size_bstr (ss.getD k [])
      generalize sumS (ss.take k) = x at *
      have hzl : (bstr (ss.getD k [])).size ≤ 140737488355328 := by rw [hz]; omega
      rw [← hz] at HS
      generalize bstr (ss.getD k []) = S at *
      clear hz hle hs he
      by_cases hbig : 2000 < x + (S.size + 1)
      · have hb' : (2000 : Int) < (x : Int) + ((S.size : Int) + 1) := by omega
        clear hbig
        go_wp2
        go_ret
        exact ⟨rfl, hb⟩
      · have hb' : (x : Int) + ((S.size : Int) + 1) ≤ 2000 := by omega
        have HB := Lib.hid hbig
        clear hbig
        go_wp2
        go_round
        case rel => exact ⟨k + 1, by omega, by go_num, by rw [HS.out]; go_num, by rw [HS.out]; omega⟩
        case measure => simp [intOf]; omega
    · obtain rfl : k = ss.length := by omega
      have hsum : sumS ss ≤ 2000 := by rw [List.take_length] at hx; exact hx
      have hlen := sumS_len ss
      have hjl : (joinL16 ss).length ≤ 2000 := by
        have := glue_len 44 ss
        unfold joinL16
        split
        · omega
        · simp
      have k1 := Lib.hid (fun A' c' w' h h2 => xjoin_any ss (by omega) A' c' w' h h2)
      have k2 := Lib.hid (fun w' h => names_join ss ▸ xnames_any (joinL16 ss) (by omega) w' h)
      have k3 := Lib.hid (fun A' c' w' h => rjoin16_any ss (by omega) A' c' w' h)
      have k4 := Lib.hid (fun A B c d w' h1 h2 => (decide_eq_true (rfl : ss = ss)) ▸ same16_any ss ss (by omega) A B c d w' h1 h2)
      have he1 := bstr_empty (joinL16 ss)
      have hee : ((bstr (joinL16 ss)).toList == (bstr (joinL16 ss)).toList) = true := beq_self_eq_true _
      have hj1 := join_ne ss
      have hj2 := join_off ss
      have hownq : (w1.alloc (.cells #[] 9)).ownsRow w1.heap.size 9 1 (.slice (some ⟨w1.heap.size, 0, none⟩) 0 0) 0 (strsV []) := World.ownsRow_lit w1 (e := 9) (size := 1) #[] 0 (Nat.le_refl _) (by unfold maxLen; omega) rfl
      have hbq : Below w1.heap.size w1 (w1.alloc (.cells #[] 9)) := (Below.refl _ w1).alloc (Nat.le_refl _) _
      have n1 : 0 + ss.length ≤ maxLen := by unfold maxLen; omega
      have n2 : (0 + ss.length) * 16 ≤ 140737488355328 := by omega
      generalize joinL16 ss = J at *
      cases hr : riseL ss with
      | true =>
        rw [decide_eq_false (hj1 hr)] at he1
        rw [hr] at k2
        clear hj1 hj2 hr hsum hlen hjl hx hlt hk he
        go_wp2_with (first
          | (at_builtin; refine wpList_append_sl rfl (.tmp 25) (.tmp 26) 23 rfl w1.heap.size 9 i0 _ 16 Tryd.underlying23 hi hz0 hz1 hz2 rfl _ 0 (strsV []) rfl hownq A ss.length c (strsV ss) rfl (length_strsV ss).symm (hs.later (Nat.le_refl _) hbq) (strsV_one _) n1 n2 hbq.size ?_; intro v2 w2 hown2 hg2; have hb2 := hbq.grown hg2 hbq.size (fun j hj => (hownq.lt j hj).1); have hl := hs.later (Nat.le_refl _) hb2; rw [show strsV [] ++ strsV ss = strsV ss from rfl, Nat.zero_add] at hown2; obtain ⟨A2, c2, rfl, hpl, hs2⟩ := Sl.of_own hown2; clear hpl; have hb := hb.trans (hb2.mono hb.size); have hEE := hE.next hb)
          | (go_at_call 16; refine (k1.out A2 c2 _ hs2 hEE).mono ?_; rintro e w' ⟨rfl, hq⟩; have hl := hl.later (Nat.le_refl _) hq; have hb := hb.trans (hq.mono hb.size); have hEE := hE.next hb)
          | (go_at_call 11; refine (k2.out _ hEE).mono ?_; rintro e w' ⟨Am, cm, rfl, hm, hq⟩; have hl := hl.later (Nat.le_refl _) hq; have hb := hb.trans (hq.mono hb.size); have hEE := hE.next hb)
          | (go_at_call 17; refine (k3.out _ _ _ hl).mono ?_; rintro e w' ⟨rfl, rfl⟩)
          | (go_at_call 13; refine (k4.out _ _ _ _ _ hl hm).mono ?_; rintro e w' ⟨rfl, hq⟩; have hb := hb.trans (hq.mono hb.size); have hEE := hE.next hb))
        go_ret
        exact ⟨rfl, hb⟩
      | false =>
        obtain rfl := hj2 hr
        rw [decide_eq_true rfl] at he1
        rw [hr] at k2
        clear hj1 hj2 hr hsum hlen hjl hx hlt hk he
        go_wp2_with (first
          | (at_builtin; refine wpList_append_sl rfl (.tmp 25) (.tmp 26) 23 rfl w1.heap.size 9 i0 _ 16 Tryd.underlying23 hi hz0 hz1 hz2 rfl _ 0 (strsV []) rfl hownq A ss.length c (strsV ss) rfl (length_strsV ss).symm (hs.later (Nat.le_refl _) hbq) (strsV_one _) n1 n2 hbq.size ?_; intro v2 w2 hown2 hg2; have hb2 := hbq.grown hg2 hbq.size (fun j hj => (hownq.lt j hj).1); have hl := hs.later (Nat.le_refl _) hb2; rw [show strsV [] ++ strsV ss = strsV ss from rfl, Nat.zero_add] at hown2; obtain ⟨A2, c2, rfl, hpl, hs2⟩ := Sl.of_own hown2; clear hpl; have hb := hb.trans (hb2.mono hb.size); have hEE := hE.next hb)
          | (go_at_call 16; refine (k1.out A2 c2 _ hs2 hEE).mono ?_; rintro e w' ⟨rfl, hq⟩; have hl := hl.later (Nat.le_refl _) hq; have hb := hb.trans (hq.mono hb.size); have hEE := hE.next hb)
          | (go_at_call 11; refine (k2.out _ hEE).mono ?_; rintro e w' ⟨Am, cm, rfl, hm, hq⟩; have hl := hl.later (Nat.le_refl _) hq; have hb := hb.trans (hq.mono hb.size); have hEE := hE.next hb)
          | (go_at_call 17; refine (k3.out _ _ _ hl).mono ?_; rintro e w' ⟨rfl, rfl⟩))
        go_ret
        exact ⟨rfl, hb⟩
end Go.Proofs.YtbngnmhbnhpbeaaDoor
