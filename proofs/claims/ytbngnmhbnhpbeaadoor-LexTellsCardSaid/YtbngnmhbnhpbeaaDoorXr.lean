/- LAYER 16: the document's Rise. -/
import Derived.Test.YtbngnmhbnhpbeaaDoorXn
import Derived.Test.YtbngnmhbnhpbeaaDoorXl
import Derived.Test.YtbngnmhbnhpbeaaDoorWd
import Derived.Laws.Cover1
namespace Go.Proofs.YtbngnmhbnhpbeaaDoor
set_option maxRecDepth 100000
open Go Go.RowKit

theorem okAt_zero (l : List (List UInt8)) (i : Nat) (h : i = 0) : okAt l i = name16 (l.getD i []) := by
  subst h
  unfold okAt
  simp
theorem okAt_pos (l : List (List UInt8)) (i : Nat) (h : 0 < i) : okAt l i = (name16 (l.getD i []) && Op.bytesLess (l.getD (i - 1) []) (l.getD i [])) := by
  unfold okAt
  rw [decide_eq_false (by omega : ¬ i = 0), Bool.false_or]
theorem okAt_next (l : List (List UInt8)) (k : Nat) (h : ∀ j < k, okAt l j = true) (hk : okAt l k = true) : ∀ j < k + 1, okAt l j = true := by
  intro j hj
  rcases Nat.lt_succ_iff_lt_or_eq.1 hj with h1 | h1
  · exact h j h1
  · rw [h1]; exact hk
set_option maxHeartbeats 2000000 in
theorem rrise_any (l : List (List UInt8)) (hl : l.length ≤ 100000) (hp : ∀ p ∈ l, p.length ≤ 100000) (A : Option Addr) (c : Nat) (w : World) (hsl : Sl w A c (strsV l)) :
    Calls Tryd.prog 28 #[.slice A l.length c] w fun e w' => e = .returned (.bool (riseL l)) ∧ w = w' := by
  obtain ⟨V, hV⟩ : ∃ V, V = riseL l := ⟨_, rfl⟩
  have HV := Lib.hid hV
  rw [← hV]
  clear hV
  by_cases h1 : l.length < 1
  · have HW := Lib.hid (show V = false by rw [HV.out]; unfold riseL; rw [decide_eq_false (by omega : ¬ 1 ≤ l.length)]; rfl)
    have a1 : (l.length : Int) < 1 := by omega
    clear HV h1
    go_enter Tryd.func28, Tryd.ntmps28
    go_wp2
    go_ret
    exact ⟨by rw [HW.out]; rfl, rfl⟩
  have a1 : decide ((l.length : Int) < 1) = false := decide_eq_false (by omega)
  by_cases h2 : 32 < l.length
  · have HW := Lib.hid (show V = false by rw [HV.out]; unfold riseL; rw [decide_eq_false (by omega : ¬ l.length ≤ 32), Bool.and_false]; rfl)
    have a2 : (32 : Int) < (l.length : Int) := by omega
    clear HV h1 h2
    go_enter Tryd.func28, Tryd.ntmps28
    go_wp2
    go_ret
    exact ⟨by rw [HW.out]; rfl, rfl⟩
  have a2 : decide ((32 : Int) < (l.length : Int)) = false := decide_eq_false (by omega)
  have HT := Lib.hid (show (∀ i < l.length, okAt l i = true) → V = true from fun h => by rw [HV.out]; exact (riseL_at l).2 ⟨by omega, by omega, h⟩)
  have HFa := Lib.hid (show ∀ i, i < l.length → okAt l i = false → V = false from fun i hi h => by rw [HV.out]; exact riseL_bad l i hi h)
  have hnm := Lib.hid (fun s (h : s ∈ l) w' => rname16_any s (hp s h) w')
  clear HV h1 h2 hp
  go_enter Tryd.func28, Tryd.ntmps28
  go_wp2
  clear a1 a2
  go_loop [15] (fun i => ∃ k : Nat, k ≤ l.length ∧ i = .int .i64 k ∧ ∀ j < k, okAt l j = true) (fun i => l.length - (intOf i).toNat)
  case atStart => exact ⟨0, by omega, rfl, fun j hj => by omega⟩
  case round =>
    obtain ⟨k, hk, rfl, hf⟩ := hrel
    by_cases hlt : k < l.length
    · have hlt' : (k : Int) < (l.length : Int) := by omega
      obtain ⟨b, o, rfl, -, -⟩ := hsl.rd.get (i := k) (by rw [length_strsV]; exact hlt)
      have hix := index_strs (some ⟨b, o, none⟩) b o l.length c k rfl hlt
      have hce := strs_cell hsl k hlt
      have HF := Lib.hid hf
      have HC := Lib.hid (hnm.out (l.getD k []) (by rw [List.getD_eq_getElem?_getD, List.getElem?_eq_getElem hlt]; exact List.getElem_mem hlt) w)
      clear hf
      by_cases h0 : k = 0
      · have HA := Lib.hid (okAt_zero l k h0)
        have a3 : decide ((0 : Int) < (k : Int)) = false := decide_eq_false (by omega)
        have a5 : decide (0 < k) = false := decide_eq_false (by omega)
        have HB := Lib.hid (HFa.out k hlt)
        generalize l.getD k [] = s at *
        clear h0
        cases hsg : name16 s with
        | true =>
          have HN := Lib.hid (okAt_next l k HF.out (HA.out.trans hsg))
          rw [hsg] at HC
          clear HA hsg HB
          go_wp2_with (go_at_call 15; refine HC.out.mono ?_; rintro e w' ⟨rfl, rfl⟩)
          go_round
          case rel => exact ⟨k + 1, by omega, by go_num, HN.out⟩
          case measure => simp [intOf]; omega
        | false =>
          have HN := Lib.hid (HB.out (HA.out.trans hsg))
          rw [hsg] at HC
          clear HA hsg HB
          go_wp2_with (go_at_call 15; refine HC.out.mono ?_; rintro e w' ⟨rfl, rfl⟩)
          go_ret
          exact ⟨by rw [HN.out]; rfl, rfl⟩
      · have HA := Lib.hid (okAt_pos l k (by omega))
        have a3 : (0 : Int) < (k : Int) := by omega
        have a5 : 0 < k := by omega
        have a4 : IntKind.i64.wrap ((k : Int) - 1) = ((k - 1 : Nat) : Int) := by rw [IntKind.wrap_i64]; omega
        have hix2 := index_strs (some ⟨b, o, none⟩) b o l.length c (k - 1) rfl (by omega)
        have hce2 := strs_cell hsl (k - 1) (by omega)
        have HB := Lib.hid (HFa.out k hlt)
        have HL := Lib.hid (show Op.bytesLess (bstr (l.getD (k - 1) [])).toList (bstr (l.getD k [])).toList = Op.bytesLess (l.getD (k - 1) []) (l.getD k []) by rw [bstr_toList, bstr_toList])
        generalize hk1 : k - 1 = k1 at *
        generalize l.getD k [] = s at *
        generalize l.getD k1 [] = s1 at *
        clear h0 hk1
        cases hsg : name16 s with
        | true =>
          cases hle : Op.bytesLess s1 s with
          | true =>
            have HN := Lib.hid (okAt_next l k HF.out (by rw [HA.out, hsg, hle]; rfl))
            have hle2 := HL.out.trans hle
            rw [hsg] at HC
            clear HA hsg HB HL hle
            go_wp2_with (go_at_call 15; refine HC.out.mono ?_; rintro e w' ⟨rfl, rfl⟩)
            go_round
            case rel => exact ⟨k + 1, by omega, by go_num, HN.out⟩
            case measure => simp [intOf]; omega
          | false =>
            have HN := Lib.hid (HB.out (by rw [HA.out, hsg, hle]; rfl))
            have hle2 := HL.out.trans hle
            rw [hsg] at HC
            clear HA hsg HB HL hle
            go_wp2_with (go_at_call 15; refine HC.out.mono ?_; rintro e w' ⟨rfl, rfl⟩)
            go_ret
            exact ⟨by rw [HN.out]; rfl, rfl⟩
        | false =>
          have HN := Lib.hid (HB.out (by rw [HA.out, hsg]; rfl))
          rw [hsg] at HC
          clear HA hsg HB HL
          go_wp2_with (go_at_call 15; refine HC.out.mono ?_; rintro e w' ⟨rfl, rfl⟩)
          go_ret
          exact ⟨by rw [HN.out]; rfl, rfl⟩
    · obtain rfl : k = l.length := by omega
      have HN := Lib.hid (HT.out hf)
      clear hf
      go_wp2
      go_ret
      exact ⟨by rw [HN.out]; rfl, rfl⟩
end Go.Proofs.YtbngnmhbnhpbeaaDoor
