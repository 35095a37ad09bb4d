/- LAYER 3: the document's SHA-256. -/
import Derived.Test.YtefbopgbikmohaaDoorDs
import Derived.Test.YtefbopgbikmohaaDoorCf2
import Derived.Test.YtefbopgbikmohaaDoorP1
namespace Go.Proofs.YtefbopgbikmohaaDoor
open Go Go.RowKit

theorem rstart3_any (w : World) :
    Calls Tryd.prog 28 #[] w (GaveWords S0.list w) := by
  go_enter Tryd.func28, Tryd.ntmps28
  go_wp2
  go_ret
  exact ⟨_, rfl, World.ownsRow_lit w #[_, _, _, _, _, _, _, _] 8 (Nat.le_refl _) (by unfold maxLen; omega) rfl, (Below.refl _ _).alloc (Nat.le_refl _) _⟩
theorem square_words_all : (List.range 8).all (fun i => decide (u (S0.list.getD i 0#32) = squareT.getD i 0)) = true := by decide +kernel
theorem square_words (i : Nat) (h : i < 8) : squareT.getD i 0 = u (S0.list.getD i 0#32) := by
  have := List.all_eq_true.1 square_words_all i (by simpa using h)
  exact (by simpa using this : _ = _).symm
set_option maxRecDepth 20000 in
set_option maxHeartbeats 1000000 in
theorem rof_any (A : Option Addr) (n c : Nat) (l : List UInt8) (w : World) (hs : Sl w A c (byts l)) (hn : n = l.length) (hm : l.length ≤ 35184372088832) :
    Calls Tryd.prog 20 #[.slice A n c] w (GaveBytes (shaL l) w) := by
  subst hn
  obtain ⟨i0, hi, hz0, hz1, hz2⟩ := info_parts infoByte
  have hm0 : 0 + l.length ≤ maxLen := by unfold maxLen; omega
  have hmb : (0 + l.length) * 1 ≤ 140737488355328 := by omega
  have hpl := length_padL l.length
  have hpn := noughts_lt l.length
  have hm1 : 0 + l.length + (padL l.length).length ≤ maxLen := by unfold maxLen; omega
  have hmc : (0 + l.length + (padL l.length).length) * 1 ≤ 140737488355328 := by omega
  have hpm := padded_mod l
  have hwl : IntKind.u64.wrap (l.length : Int) = (l.length : Int) := by rw [IntKind.wrap_u64]; omega
  have hown0 : (w.alloc (.cells #[] 5)).ownsRow w.heap.size 5 1 (.slice (some ⟨w.heap.size, 0, none⟩) 0 0) 0 [] := World.ownsRow_lit w #[] 0 (Nat.le_refl _) (by unfold maxLen; omega) rfl
  have hb0 : Below w.heap.size w (w.alloc (.cells #[] 5)) := (Below.refl _ _).alloc (Nat.le_refl _) _
  obtain ⟨M, hM⟩ : ∃ M, M = l ++ padL l.length := ⟨_, rfl⟩
  have hMl : M.length = l.length + (padL l.length).length := by rw [hM, List.length_append]
  have HM := Lib.hid hM
  have HML := Lib.hid hMl
  have HPM := Lib.hid hpm
  have HPL := Lib.hid hpl
  clear hM hMl hpm hpl
  go_enter Tryd.func20, Tryd.ntmps20
  go_wp2_with (first
    | (at_builtin; refine wpList_append_sl rfl (.tmp 9) (.tmp 10) 27 rfl w.heap.size 5 i0 _ 1 Tryd.underlying27 hi hz0 hz1 hz2 rfl _ 0 [] rfl hown0 A l.length c (byts l) rfl (length_byts l).symm (hs.later (Nat.le_refl _) hb0) (byts_one l) hm0 hmb hb0.size ?_; intro v1 w1 hown1 hg1; have hb1 : Below w.heap.size w w1 := hb0.grown hg1 hb0.size (fun k hk => (hown0.lt k hk).1))
    | (go_at_call 27; refine (rpad_any l.length _).mono ?_; rintro e w2 ⟨v2, rfl, hown2, hb2⟩; obtain ⟨A2, c2, rfl, hl2, hsl2⟩ := Sl.of_own hown2; have hown1' := own_later hown1 hb2 (Nat.le_refl _); have hbB := hb1.trans (hb2.mono hb1.size))
    | (at_builtin; refine wpList_append_sl rfl (.tmp 11) (.tmp 15) 27 rfl w.heap.size 5 i0 _ 1 Tryd.underlying27 hi hz0 hz1 hz2 rfl _ (0 + l.length) ([] ++ byts l) rfl hown1' A2 (padL l.length).length c2 (byts (padL l.length)) rfl (length_byts _).symm hsl2 (byts_one _) hm1 hmc hbB.size ?_; intro v3 w3 hown3 hg3; have hb3 : Below w.heap.size w w3 := hbB.grown hg3 hbB.size (fun k hk => (hown1'.lt k hk).1))
    | (go_at_call 28; refine (rstart3_any _).mono ?_; rintro e w4 ⟨v4, rfl, hown4, hb4⟩))
  have hM0 : 0 < M.length := by rw [HML.out, HPL.out]; omega
  have hM64 : M.length % 64 = 0 := by rw [HML.out]; exact HPM.out
  have e0 : 0 + l.length + (padL l.length).length = M.length := by rw [HML.out]; omega
  have eM : [] ++ byts l ++ byts (padL l.length) = byts M := by rw [HM.out, byts_append, List.nil_append]
  rw [e0, eM] at hown3
  have hl8 : S0.list.length = 8 := rfl
  rw [hl8] at hown4
  obtain ⟨g3, cap3, rfl, _, hgl3⟩ := hown3.form hM0
  obtain ⟨A3, c3, he3, _, hsl3⟩ := Sl.of_own hown3
  cases he3
  have hsl4 := hsl3.later (Nat.le_refl _) hb4
  have hb4' := hb3.trans (hb4.mono hb3.size)
  have hroom := hsl4.room
  rw [length_byts] at hroom
  have hMm : M.length ≤ 140737488355328 := by rw [HML.out]; omega
  clear hown0 hb0 hown1 hg1 hb1 hb2 hown2 hl2 hsl2 hown1' hbB hg3 hown3 hsl3 e0 eM hl8 hwl
  go_loopw [4, 5] (fun v i wr => ∃ k : Nat, 64 * k ≤ M.length ∧ i = .int .i64 ((64 * k : Nat) : Int) ∧ wr.ownsRow w3.heap.size 40 1 v 8 (words (stK M k).list) ∧ Below w4.heap.size w4 wr) (fun _ i _ => M.length - (intOf i).toNat)
  case atStart => exact ⟨0, by omega, rfl, hown4, Below.refl _ _⟩
  case round =>
    clear hown4
    obtain ⟨k, hk, rfl, hown, hb⟩ := hrel
    by_cases hlt : 64 * k < M.length
    · have hk1 : 64 * k + 64 ≤ M.length := by omega
      obtain ⟨g5, cap5, rfl, hg5, hgl5⟩ := hown.form (by omega)
      obtain ⟨A5, c5, he5, _, hsl5⟩ := Sl.of_own hown
      cases he5
      have hsl6 := hsl4.later (Nat.le_refl _) hb
      have hsl7 := hsl6.cut (k := 64 * k) (by rw [length_byts]; omega)
      rw [blkAt_cut, Nat.zero_add] at hsl7
      have hsl8 := hsl7.pre
      have hbl := Lib.hid (length_blkAt M k (by omega))
      have HST := Lib.hid (show stK M (k + 1) = compS (blkAt M k) (stK M k) from rfl)
      generalize blkAt M k = B at *
      generalize stK M k = st at *
      obtain ⟨p, hp⟩ : ∃ p, p = 64 * k := ⟨_, rfl⟩
      rw [← hp] at hlt hk1 hsl8 ⊢
      have hI0 : IntKind.i64.wrap ((p : Int) + 64) = (p : Int) + 64 := by rw [IntKind.wrap_i64]; omega
      have hI1 : (p : Int) + 64 ≤ (cap3 : Int) := by omega
      have hI2 : ¬ (cap3 = p) := by omega
      have hI3 : (p : Int) < (M.length : Int) := by omega
      have HPk := Lib.hid hp
      clear hp hsl6 hsl7 hk
      have hI4 : p + 64 - p = 64 := by omega
      have hle : w3.heap.size ≤ wr.heap.size := Nat.le_trans hb4.size hb.size
      go_wp2_with (go_at_call 29; refine (rcompress_any g5 0 cap5 g3 p (cap3 - p) st B hbl.out _ hsl5 hsl8).mono ?_; rintro e w6 ⟨v6, rfl, hown6, hb6⟩)
      have hown6' : w6.ownsRow w3.heap.size 40 1 v6 8 (words (compS B st).list) := own_mono hown6 hle
      have hb6' := below_step hb hb6
      clear hI0 hI1 hI2 hI4 hsl8 hsl5 hown6 hb6 hown hb
      go_roundw
      case rel =>
        refine ⟨k + 1, by have := HPk.out; omega, ?_, by rw [HST.out]; exact hown6', hb6'⟩
        rw [show 64 * (k + 1) = p + 64 by rw [HPk.out]; omega]
        go_num
      case measure => simp [intOf]; omega
    · have ek : k = M.length / 64 := by omega
      have hst : (stK M k).list = (shaS l).list := by rw [ek, HML.out, HM.out]; rfl
      rw [hst] at hown
      have hge : ¬ (((64 * k : Nat) : Int) < (M.length : Int)) := by omega
      obtain ⟨p, hp⟩ : ∃ p, p = 64 * k := ⟨_, rfl⟩
      rw [← hp] at hge ⊢
      obtain ⟨ws, hws⟩ : ∃ ws, ws = (shaS l).list := ⟨_, rfl⟩
      have hwsl : ws.length = 8 := by rw [hws]; rfl
      rw [← hws] at hown
      have HWS := Lib.hid hws
      have HWL := Lib.hid hwsl
      obtain ⟨g5, cap5, rfl, hg5, hgl5⟩ := hown.form (by omega)
      have hb5 := hb4'.trans (hb.mono hb4'.size)
      clear hb
      obtain ⟨wo, rfl⟩ : ∃ wo : World, wo = wr := ⟨_, rfl⟩
      have hownB : (wo.alloc (.cells #[] 5)).ownsRow wo.heap.size 5 1 (.slice (some ⟨wo.heap.size, 0, none⟩) 0 0) 0 (byts (wordsB (ws.take 0))) := World.ownsRow_lit wo #[] 0 (Nat.le_refl _) (by unfold maxLen; omega) rfl
      have hbC : Below wo.heap.size wo (wo.alloc (.cells #[] 5)) := (Below.refl _ wo).alloc (Nat.le_refl _) (.cells #[] 5)
      clear hst hp hws hwsl ek
      go_wp2_with fail
      go_loopw [6, 34] (fun v i wq => ∃ j : Nat, j ≤ 8 ∧ i = .int .i64 j ∧ wq.ownsRow wo.heap.size 5 1 v (4 * j) (byts (wordsB (ws.take j))) ∧ Below wo.heap.size wo wq) (fun _ i _ => 8 - (intOf i).toNat)
      case atStart => exact ⟨0, by omega, rfl, hownB, hbC⟩
      case round =>
        clear hownB hbC
        obtain ⟨j, hj, rfl, howno, hb⟩ := hrel
        by_cases hlt8 : j < 8
        · have cj := own_cell (own_later hown hb (Nat.le_refl _)) j (by rw [HWL.out]; exact hlt8)
          have HS := Lib.hid (wordsB_succ ws j (by rw [HWL.out]; exact hlt8))
          generalize ws.getD j 0#32 = x at *
          have n1 : 4 * j + 4 ≤ maxLen := by unfold maxLen; omega
          have n2 : (4 * j + 4) * 1 ≤ 140737488355328 := by omega
          go_wp2_with (first
            | (go_at_call 30; refine (rbytes_any x _).mono ?_; rintro e w7 ⟨v7, rfl, hown7, hb7⟩; obtain ⟨A7, c7, rfl, _, hsl9⟩ := Sl.of_own hown7; have howno' := own_later howno hb7 (Nat.le_refl _); have hbD := below_step hb hb7)
            | (at_builtin; refine wpList_append_sl rfl (.tmp 38) (.tmp 40) 27 rfl wo.heap.size 5 i0 _ 1 Tryd.underlying27 hi hz0 hz1 hz2 rfl _ (4 * j) (byts (wordsB (ws.take j))) rfl howno' A7 (bytesL x).length c7 (byts (bytesL x)) rfl (length_byts _).symm hsl9 (byts_one _) n1 n2 hbD.size ?_; intro v8 w8 hown8 hg8; have hb8 : Below wo.heap.size wo w8 := hbD.grown hg8 hbD.size (fun k hk => (howno'.lt k hk).1)))
          clear hg8 howno' hbD hown7 hb7 hsl9 howno hb cj
          rw [← byts_append, ← HS.out] at hown8
          go_roundw
          case rel => exact ⟨j + 1, by omega, by go_num, hown8, hb8⟩
          case measure => simp [intOf]; omega
        · have e8 : j = 8 := by omega
          rw [e8, List.take_of_length_le (by rw [HWL.out]; exact Nat.le_refl _), HWS.out] at howno
          go_wp2
          go_ret
          exact ⟨_, rfl, own_mono howno hb5.size, hb5.trans (hb.mono hb5.size)⟩
end Go.Proofs.YtefbopgbikmohaaDoor
