/- LAYER 4: the document's HMAC. -/
import Derived.Test.YtefbopgbikmohaaDoorHk
import Derived.Test.YtefbopgbikmohaaDoorDr
namespace Go.Proofs.YtefbopgbikmohaaDoor
open Go Go.RowKit

theorem xor_take (x : UInt8) (k : List UInt8) (j : Nat) (h : j < k.length) : xorL x (k.take (j + 1)) = xorL x (k.take j) ++ [k.getD j 0 ^^^ x] := by
  have e : k.take (j + 1) = k.take j ++ [k[j]] := by rw [List.take_add_one]; simp [h]
  have g : k.getD j 0 = k[j] := by simp [h]
  rw [e, g]
  unfold xorL
  rw [List.map_append]
  rfl
theorem key_in {s k : List UInt8} {j : Nat} (hs : s = shortL k) (h : j < s.length) : (keyL k).getD j 0 = s.getD j 0 := by
  unfold keyL
  rw [← hs, List.getD_eq_getElem?_getD, List.getElem?_append_left h, List.getD_eq_getElem?_getD]
theorem key_out {s k : List UInt8} {j : Nat} (hs : s = shortL k) (h : s.length ≤ j) : (keyL k).getD j 0 = 0 := by
  unfold keyL
  rw [← hs, List.getD_eq_getElem?_getD, List.getElem?_append_right h, List.getElem?_replicate]
  split <;> rfl
set_option maxRecDepth 20000 in
set_option maxHeartbeats 1000000 in
theorem rturned_any (A : Option Addr) (n c : Nat) (k : List UInt8) (x : UInt8) (w : World) (hs : Sl w A c (byts k)) (hn : n = k.length) (hm : k.length ≤ 35184372088832) :
    Calls Tryd.prog 21 #[.slice A n c, .int .u8 (x.toNat : Int)] w (GaveBytes (xorL x (keyL k)) w) := by
  subst hn
  obtain ⟨i0, hi, hz0, hz1, hz2⟩ := info_parts infoByte
  have HKL := Lib.hid (length_keyL k)
  by_cases h64 : k.length ≤ 64
  · have HS := Lib.hid (show k = shortL k by unfold shortL; rw [if_pos h64])
    have hb1 := Below.refl w.heap.size w
    go_enter Tryd.func21, Tryd.ntmps21
    go_wp2
    have hown0 : (w.alloc (.cells #[] 5)).ownsRow w.heap.size 5 1 (.slice (some ⟨w.heap.size, 0, none⟩) 0 0) 0 [] := World.ownsRow_lit w #[] 0 (Nat.le_refl _) (by unfold maxLen; omega) rfl
    have hb0 := (Below.refl w.heap.size w).alloc (Nat.le_refl _) (.cells #[] 5)
    go_loopw [5, 6] (fun v i wr => ∃ j : Nat, j ≤ 64 ∧ i = .int .i64 j ∧ wr.ownsRow w.heap.size 5 1 v j (byts (xorL x ((keyL k).take j))) ∧ Below w.heap.size w wr) (fun _ i _ => 64 - (intOf i).toNat)
    case atStart => exact ⟨0, by omega, rfl, hown0, hb0⟩
    case round =>
      clear hown0 hb0
      obtain ⟨j, hj, rfl, hown, hb⟩ := hrel
      by_cases hlt : j < 64
      · have hd1 : j + 1 ≤ maxLen := by unfold maxLen; omega
        have hd2 : (j + 1) * 1 ≤ 140737488355328 := by omega
        have HX := Lib.hid (xor_take x (keyL k) j (by rw [HKL.out]; exact hlt))
        by_cases hin : j < k.length
        · obtain ⟨b, o, hA, _, hcj⟩ := (hs.later (Nat.le_refl _) hb).rd.get (i := j) (by rw [length_byts]; exact hin)
          have hix := index_bytes A b o k.length c j hA hin
          rw [get_byts _ _ hin] at hcj
          have HY := Lib.hid (key_in HS.out hin)
          generalize k.getD j 0 = y at *
          have hby := Lib.hid (show byts [y ^^^ x] = [Value.int .u8 (bits .xor .u8 (y.toNat : Int) (x.toNat : Int))] by rw [byte_xor]; rfl)
          have HA := Lib.hid hA
          clear hA
          go_wp2_with (at_builtin; go_loud (refine wpList_append_own _ rfl (.tmp 26) (.tmp 30) 27 rfl w.heap.size 5 i0 _ 1 1 Tryd.underlying27 hi hz0 hz1 hz2 rfl (by omega) _ j (byts (xorL x ((keyL k).take j))) rfl (hown.alloc _) ⟨wr.heap.size, 0, none⟩ 1 1 (byts [y ^^^ x]) rfl (length_byts _) (by rw [hby.out]; exact cells_new _ _ _) (byts_one _) hd1 hd2 (by rw [World.size_alloc]; have := hb.size; omega) ?_; intro v3 w3 hown3 hg3 _; have hb3 : Below w.heap.size w w3 := (hb.alloc hb.size _).grown hg3 (by rw [World.size_alloc]; have := hb.size; omega) (fun k hk => (hown.lt k hk).1)))
          rw [← byts_append, ← HY.out, ← HX.out] at hown3
          clear hb hown hg3
          go_roundw
          case rel => exact ⟨j + 1, by omega, by go_num, hown3, hb3⟩
          case measure => simp [intOf]; omega
        · have HY := Lib.hid (key_out HS.out (Nat.le_of_not_lt hin))
          have hby := Lib.hid (show byts [0 ^^^ x] = [Value.int .u8 (bits .xor .u8 0 (x.toNat : Int))] by rw [show (0 : Int) = ((0 : UInt8).toNat : Int) from rfl, byte_xor]; rfl)
          go_wp2_with (at_builtin; go_loud (refine wpList_append_own _ rfl (.tmp 26) (.tmp 30) 27 rfl w.heap.size 5 i0 _ 1 1 Tryd.underlying27 hi hz0 hz1 hz2 rfl (by omega) _ j (byts (xorL x ((keyL k).take j))) rfl (hown.alloc _) ⟨wr.heap.size, 0, none⟩ 1 1 (byts [0 ^^^ x]) rfl (length_byts _) (by rw [hby.out]; exact cells_new _ _ _) (byts_one _) hd1 hd2 (by rw [World.size_alloc]; have := hb.size; omega) ?_; intro v3 w3 hown3 hg3 _; have hb3 : Below w.heap.size w w3 := (hb.alloc hb.size _).grown hg3 (by rw [World.size_alloc]; have := hb.size; omega) (fun k hk => (hown.lt k hk).1)))
          rw [← byts_append, ← HY.out, ← HX.out] at hown3
          clear hb hown hg3
          go_roundw
          case rel => exact ⟨j + 1, by omega, by go_num, hown3, hb3⟩
          case measure => simp [intOf]; omega
      · have e64 : j = 64 := by omega
        rw [e64, List.take_of_length_le (by rw [HKL.out]; exact Nat.le_refl _)] at hown
        go_wp2
        go_ret
        refine ⟨_, rfl, ?_, hb1.trans (hb.mono hb1.size)⟩
        rw [length_xorL, HKL.out]
        exact own_mono hown hb1.size
  · have hr := Lib.hid (rof_any A k.length c k w hs rfl hm)
    obtain ⟨s, hsq⟩ : ∃ s, s = shaL k := ⟨_, rfl⟩
    have HS := Lib.hid (show s = shortL k by unfold shortL; rw [if_neg h64, hsq])
    have hsl64 := Lib.hid (show s.length = 32 by rw [hsq]; exact length_shaL k)
    rw [← hsq] at hr
    clear hsq
    go_enter Tryd.func21, Tryd.ntmps21
    go_wp2_with (go_at_call 20; refine hr.out.mono ?_; rintro e w1 ⟨v1, rfl, hown1, hb1⟩; obtain ⟨A1, c1, rfl, _, hsl1⟩ := Sl.of_own hown1; clear hown1)
    have hown0 : (w1.alloc (.cells #[] 5)).ownsRow w1.heap.size 5 1 (.slice (some ⟨w1.heap.size, 0, none⟩) 0 0) 0 [] := World.ownsRow_lit w1 #[] 0 (Nat.le_refl _) (by unfold maxLen; omega) rfl
    have hb0 := (Below.refl w1.heap.size w1).alloc (Nat.le_refl _) (.cells #[] 5)
    go_loopw [5, 6] (fun v i wr => ∃ j : Nat, j ≤ 64 ∧ i = .int .i64 j ∧ wr.ownsRow w1.heap.size 5 1 v j (byts (xorL x ((keyL k).take j))) ∧ Below w1.heap.size w1 wr) (fun _ i _ => 64 - (intOf i).toNat)
    case atStart => exact ⟨0, by omega, rfl, hown0, hb0⟩
    case round =>
      clear hown0 hb0
      obtain ⟨j, hj, rfl, hown, hb⟩ := hrel
      by_cases hlt : j < 64
      · have hd1 : j + 1 ≤ maxLen := by unfold maxLen; omega
        have hd2 : (j + 1) * 1 ≤ 140737488355328 := by omega
        have HX := Lib.hid (xor_take x (keyL k) j (by rw [HKL.out]; exact hlt))
        by_cases hin : j < s.length
        · obtain ⟨b, o, hA, _, hcj⟩ := (hsl1.later (Nat.le_refl _) hb).rd.get (i := j) (by rw [length_byts]; exact hin)
          have hix := index_bytes A1 b o s.length c1 j hA hin
          rw [get_byts _ _ hin] at hcj
          have HY := Lib.hid (key_in HS.out hin)
          generalize s.getD j 0 = y at *
          have hby := Lib.hid (show byts [y ^^^ x] = [Value.int .u8 (bits .xor .u8 (y.toNat : Int) (x.toNat : Int))] by rw [byte_xor]; rfl)
          have HA := Lib.hid hA
          clear hA
          go_wp2_with (at_builtin; go_loud (refine wpList_append_own _ rfl (.tmp 26) (.tmp 30) 27 rfl w1.heap.size 5 i0 _ 1 1 Tryd.underlying27 hi hz0 hz1 hz2 rfl (by omega) _ j (byts (xorL x ((keyL k).take j))) rfl (hown.alloc _) ⟨wr.heap.size, 0, none⟩ 1 1 (byts [y ^^^ x]) rfl (length_byts _) (by rw [hby.out]; exact cells_new _ _ _) (byts_one _) hd1 hd2 (by rw [World.size_alloc]; have := hb.size; omega) ?_; intro v3 w3 hown3 hg3 _; have hb3 : Below w1.heap.size w1 w3 := (hb.alloc hb.size _).grown hg3 (by rw [World.size_alloc]; have := hb.size; omega) (fun k hk => (hown.lt k hk).1)))
          rw [← byts_append, ← HY.out, ← HX.out] at hown3
          clear hb hown hg3
          go_roundw
          case rel => exact ⟨j + 1, by omega, by go_num, hown3, hb3⟩
          case measure => simp [intOf]; omega
        · have HY := Lib.hid (key_out HS.out (Nat.le_of_not_lt hin))
          have hby := Lib.hid (show byts [0 ^^^ x] = [Value.int .u8 (bits .xor .u8 0 (x.toNat : Int))] by rw [show (0 : Int) = ((0 : UInt8).toNat : Int) from rfl, byte_xor]; rfl)
          go_wp2_with (at_builtin; go_loud (refine wpList_append_own _ rfl (.tmp 26) (.tmp 30) 27 rfl w1.heap.size 5 i0 _ 1 1 Tryd.underlying27 hi hz0 hz1 hz2 rfl (by omega) _ j (byts (xorL x ((keyL k).take j))) rfl (hown.alloc _) ⟨wr.heap.size, 0, none⟩ 1 1 (byts [0 ^^^ x]) rfl (length_byts _) (by rw [hby.out]; exact cells_new _ _ _) (byts_one _) hd1 hd2 (by rw [World.size_alloc]; have := hb.size; omega) ?_; intro v3 w3 hown3 hg3 _; have hb3 : Below w1.heap.size w1 w3 := (hb.alloc hb.size _).grown hg3 (by rw [World.size_alloc]; have := hb.size; omega) (fun k hk => (hown.lt k hk).1)))
          rw [← byts_append, ← HY.out, ← HX.out] at hown3
          clear hb hown hg3
          go_roundw
          case rel => exact ⟨j + 1, by omega, by go_num, hown3, hb3⟩
          case measure => simp [intOf]; omega
      · have e64 : j = 64 := by omega
        rw [e64, List.take_of_length_le (by rw [HKL.out]; exact Nat.le_refl _)] at hown
        go_wp2
        go_ret
        refine ⟨_, rfl, ?_, hb1.trans (hb.mono hb1.size)⟩
        rw [length_xorL, HKL.out]
        exact own_mono hown hb1.size
set_option maxRecDepth 20000 in
set_option maxHeartbeats 1000000 in
theorem rmac_any (A : Option Addr) (n c : Nat) (k : List UInt8) (B : Option Addr) (m d : Nat) (l : List UInt8) (w : World) (hs : Sl w A c (byts k)) (hn : n = k.length) (hk : k.length ≤ 35184372088832) (hp : Sl w B d (byts l)) (hmn : m = l.length) (hm : 64 + l.length ≤ 35184372088832) :
    Calls Tryd.prog 15 #[.slice A n c, .slice B m d] w (GaveBytes (macL k l) w) := by
  subst hmn
  obtain ⟨i0, hi, hz0, hz1, hz2⟩ := info_parts infoByte
  obtain ⟨XI, hXI⟩ : ∃ XI, XI = xorL 54 (keyL k) := ⟨_, rfl⟩
  obtain ⟨XO, hXO⟩ : ∃ XO, XO = xorL 92 (keyL k) := ⟨_, rfl⟩
  have hXIl : XI.length = 64 := by rw [hXI, length_xorL, length_keyL]
  have hXOl : XO.length = 64 := by rw [hXO, length_xorL, length_keyL]
  have ht1 := Lib.hid (show Calls Tryd.prog 21 #[.slice A n c, .int .u8 54] w (GaveBytes XI w) by rw [hXI]; exact rturned_any A n c k 54 w hs hn hk)
  have ht2 := Lib.hid (show ∀ w1, Below w.heap.size w w1 → Calls Tryd.prog 21 #[.slice A n c, .int .u8 92] w1 (GaveBytes XO w1) by rw [hXO]; exact fun w1 hb => rturned_any A n c k 92 w1 (hs.later (Nat.le_refl _) hb) hn hk)
  have HM := Lib.hid (show macL k l = shaL (XO ++ shaL (XI ++ l)) by unfold macL; rw [hXI, hXO])
  have m1 : XI.length + l.length ≤ maxLen := by unfold maxLen; omega
  have m2 : (XI.length + l.length) * 1 ≤ 140737488355328 := by omega
  have m3 : XO.length + (shaL (XI ++ l)).length ≤ maxLen := by rw [length_shaL]; unfold maxLen; omega
  have m4 : (XO.length + (shaL (XI ++ l)).length) * 1 ≤ 140737488355328 := by rw [length_shaL]; omega
  have m5 : (XI ++ l).length ≤ 35184372088832 := by rw [List.length_append]; omega
  have m6 : (XO ++ shaL (XI ++ l)).length ≤ 35184372088832 := by rw [List.length_append, length_shaL]; omega
  have tok1 : True := trivial
  have tok2 : True := trivial
  have tok3 : True := trivial
  have tok4 : True := trivial
  have tok5 : True := trivial
  have tok6 : True := trivial
  have HL1 := Lib.hid (show XI.length + l.length = (XI ++ l).length by rw [List.length_append])
  have HL2 := Lib.hid (show XO.length + (shaL (XI ++ l)).length = (XO ++ shaL (XI ++ l)).length by rw [List.length_append])
  clear hXI hXO hXIl hXOl hs hn hk hm
  generalize hD : XI ++ l = D at *
  generalize hS : shaL D = S at *
  go_enter Tryd.func15, Tryd.ntmps15
  go_wp2_with (first
    | (go_at_call 21; have _t := tok1; refine ht1.out.mono ?_; rintro e w1 ⟨v1, rfl, hown1, hb1⟩; have hp1 := hp.later (Nat.le_refl _) hb1; clear tok1)
    | (at_builtin; have _t := tok5; clear tok5; refine wpList_append_sl rfl (.tmp 7) (.tmp 8) 27 rfl w.heap.size 5 i0 _ 1 Tryd.underlying27 hi hz0 hz1 hz2 rfl _ XI.length (byts XI) rfl hown1 B l.length d (byts l) rfl (length_byts _).symm hp1 (byts_one _) m1 m2 hb1.size ?_; intro v2 w2 hown2 hg2; have hb2 : Below w.heap.size w w2 := hb1.grown hg2 hb1.size (fun k hk => (hown1.lt k hk).1); rw [← byts_append, hD, HL1.out] at hown2; obtain ⟨A2, c2, rfl, _, hsl2⟩ := Sl.of_own hown2)
    | (go_at_call 20; have _t := tok2; refine (rof_any A2 D.length c2 D _ hsl2 rfl m5).mono ?_; rw [hS]; rintro e w3 ⟨v3, rfl, hown3, hb3⟩; obtain ⟨A3, c3, rfl, _, hsl3⟩ := Sl.of_own hown3; have hbB := hb2.trans (hb3.mono hb2.size); clear tok2)
    | (go_at_call 21; have _t := tok3; refine (ht2.out _ hbB).mono ?_; rintro e w4 ⟨v4, rfl, hown4, hb4⟩; have hsl4 := hsl3.later (Nat.le_refl _) hb4; clear tok3)
    | (at_builtin; have _t := tok6; clear tok6; refine wpList_append_sl rfl (.tmp 12) (.tmp 13) 27 rfl w3.heap.size 5 i0 _ 1 Tryd.underlying27 hi hz0 hz1 hz2 rfl _ XO.length (byts XO) rfl hown4 A3 S.length c3 (byts S) rfl (length_byts _).symm hsl4 (byts_one _) m3 m4 hb4.size ?_; intro v5 w5 hown5 hg5; have hb5 : Below w3.heap.size w3 w5 := hb4.grown hg5 hb4.size (fun k hk => (hown4.lt k hk).1); rw [← byts_append, HL2.out] at hown5; obtain ⟨A5, c5, rfl, _, hsl5⟩ := Sl.of_own hown5)
    | (go_at_call 20; have _t := tok4; refine (rof_any A5 _ c5 (XO ++ S) _ hsl5 HL2.out m6).mono ?_; rintro e w6 ⟨v6, rfl, hown6, hb6⟩; have hbC := hbB.trans ((below_step hb5 hb6).mono hbB.size); clear tok4))

  go_ret
  rw [HM.out]
  exact ⟨v6, rfl, own_mono hown6 (Nat.le_trans hbB.size hb5.size), hbC⟩
end Go.Proofs.YtefbopgbikmohaaDoor
