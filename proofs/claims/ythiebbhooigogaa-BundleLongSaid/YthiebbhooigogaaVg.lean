/- LAYER 8: the document's Get. -/
import Derived.Test.YthiebbhooigogaaVr
namespace Go.Proofs.Ythiebbhooigogaa
open Go Go.RowKit

def getVV (r : Nat × Nat) : Value := .tuple #[.int .u64 r.1, .int .i64 r.2]
theorem getL_stop (l : List UInt8) (k : Nat) (h1 : k < 10) (h2 : k < l.length) (hb : BigTo l k) (hs : (l.getD k 0).toNat < 128) :
    getL l = if varL (valL (l.take (k + 1)) % 18446744073709551616) = l.take (k + 1) then (valL (l.take (k + 1)) % 18446744073709551616, k + 1) else (0, 0) := by
  have h := head_stop k 10 l h1 h2 hb hs
  have hl : (l.take (k + 1)).length = k + 1 := by rw [List.length_take]; omega
  unfold getL
  rw [h, hl]
  by_cases e : varL (valL (l.take (k + 1)) % 18446744073709551616) = l.take (k + 1)
  · rw [if_pos ⟨fun h => by rw [h] at hl; simp at hl, e⟩, if_pos e]
  · rw [if_neg (fun h => e h.2), if_neg e]
theorem getL_none (l : List UInt8) (k : Nat) (h : k = 10 ∨ k = l.length) (h1 : k ≤ 10) (h2 : k ≤ l.length) (hb : BigTo l k) : getL l = (0, 0) := by
  unfold getL
  rw [head_none 10 l k hb h h1 h2, if_neg (fun h => h.1 rfl)]
theorem valL_next (l : List UInt8) (k : Nat) (h : k < l.length) : valL (l.take (k + 1)) = valL (l.take k) + (l.getD k 0).toNat % 128 * 128 ^ k := by
  have e : l.take (k + 1) = l.take k ++ [l.getD k 0] := by rw [List.take_add_one]; simp [h]
  rw [e, valL_snoc, List.length_take, Nat.min_eq_left (by omega)]
set_option maxRecDepth 20000 in
set_option maxHeartbeats 2000000 in
theorem rget8_any (A : Option Addr) (n c : Nat) (l : List UInt8) (w : World) (hs : Sl w A c (byts l)) (hn : n = l.length) (hm : l.length ≤ 4611686018427387904) :
    Calls Try.prog 40 #[.slice A n c] w fun e w' => e = .returned (getVV (getL l)) ∧ Below w.heap.size w w' := by
  subst hn
  go_enter Try.func40, Try.ntmps40
  go_wp2_with fail
  go_loopw [4, 5, 6] (fun x b i wr => ∃ k : Nat, k ≤ l.length ∧ k ≤ 10 ∧ i = .int .i64 k ∧ x = .int .u64 ((valL (l.take k) % 18446744073709551616 : Nat) : Int) ∧ b = .int .u64 ((128 ^ k % 18446744073709551616 : Nat) : Int) ∧ BigTo l k ∧ Below w.heap.size w wr) (fun _ _ i _ => 10 - (intOf i).toNat)
  case atStart => exact ⟨0, by omega, by omega, rfl, rfl, rfl, BigTo.zero l, Below.refl _ _⟩
  case round =>
    obtain ⟨k, hk, hk10, rfl, rfl, rfl, hbig, hb⟩ := hrel
    by_cases hlt : k < l.length
    · by_cases h10 : k < 10
      · obtain ⟨b, o, rfl, _, hc⟩ := (hs.later (Nat.le_refl _) hb).rd.get (i := k) (by rw [length_byts]; exact hlt)
        rw [get_byts _ _ hlt] at hc
        have hix := index_bytes (some ⟨b, o, none⟩) b o l.length c k rfl hlt
        have HV := Lib.hid (valL_next l k hlt)
        have HP := Lib.hid (Nat.pow_succ (n := 128) (m := k))
        have HST := Lib.hid (getL_stop l k h10 hlt hbig)
        have HBS := Lib.hid (fun h => hbig.succ (i := k) h)
        generalize hxd : l.getD k 0 = x at *
        have HX := Lib.hid hxd
        clear hxd
        obtain ⟨N, hN⟩ : ∃ N, N = valL (l.take k) % 18446744073709551616 := ⟨_, rfl⟩
        obtain ⟨B, hB⟩ : ∃ B, B = 128 ^ k % 18446744073709551616 := ⟨_, rfl⟩
        obtain ⟨N', hN'⟩ : ∃ N', N' = valL (l.take (k + 1)) % 18446744073709551616 := ⟨_, rfl⟩
        obtain ⟨B', hB'⟩ : ∃ B', B' = 128 ^ (k + 1) % 18446744073709551616 := ⟨_, rfl⟩
        obtain ⟨y, hy⟩ : ∃ y, y = x.toNat := ⟨_, rfl⟩
        obtain ⟨z, hz⟩ : ∃ z, z = y % 128 := ⟨_, rfl⟩
        have hrem : (y : Int) % 128 = (z : Int) := by rw [hz]; omega
        have hmulN : B' = B * 128 % 18446744073709551616 := by rw [hB', HP.out, hB, Nat.mod_mul_mod]
        have haddN : N' = (N + z * B % 18446744073709551616) % 18446744073709551616 := by
          rw [hN', HV.out, hN, hB, hz, hy]
          rw [Nat.mul_mod_mod, ← Nat.add_mod]
        have hmul : IntKind.u64.wrap ((B : Int) * 128) = (B' : Int) := by rw [IntKind.wrap_u64, hmulN]; omega
        have hcv : IntKind.u64.wrap (z : Int) = (z : Int) := by rw [IntKind.wrap_u64]; omega
        obtain ⟨M, hM⟩ : ∃ M, M = z * B % 18446744073709551616 := ⟨_, rfl⟩
        have hml : IntKind.u64.wrap ((z : Int) * (B : Int)) = (M : Int) := by rw [IntKind.wrap_u64, hM]; simp
        have hadd : IntKind.u64.wrap ((N : Int) + (M : Int)) = (N' : Int) := by rw [IntKind.wrap_u64, haddN, ← hM]; omega
        have HN' := Lib.hid hN'
        have HB' := Lib.hid hB'
        have HY := Lib.hid hy
        have hb0 : (0 : Int) ≤ (y : Int) := by omega
        have hNb := Lib.hid (show N' < 18446744073709551616 by rw [hN']; exact Nat.mod_lt _ (by decide))
        rw [← hN, ← hB]
        rw [← hy] at hc
        clear hN hB hN' hB' hz hmulN haddN hM hy
        have hkk : (k : Int) < 10 := by omega
        by_cases hsm : y < 128
        · have hsm' : (y : Int) < 128 := by omega
          have hroom := hs.room
          rw [length_byts] at hroom
          have hkc : (k : Int) + 1 ≤ (c : Int) := by omega
          have hwk : IntKind.i64.wrap ((k : Int) + 1) = (k : Int) + 1 := by rw [IntKind.wrap_i64]; omega
          have hk0 : (0 : Int) ≤ (k : Int) + 1 := by omega
          have hkn : ((k : Int) + 1).toNat = k + 1 := by omega
          have hTl : k + 1 = (l.take (k + 1)).length := by rw [List.length_take]; omega
          have hslT : Sl wr (some ⟨b, o, none⟩) c (byts (l.take (k + 1))) := by
            have h := (hs.later (Nat.le_refl _) hb).take (k := k + 1)
            rwa [show (byts l).take (k + 1) = byts (l.take (k + 1)) by unfold byts; rw [List.map_take]] at h
          have HST := Lib.hid (HST.out (by rw [← HY.out]; exact hsm))
          have HEQ := Lib.hid (bstr_beq (varL N') (l.take (k + 1)))
          rw [← HN'.out] at HST
          have hN' := hNb.out
          generalize l.take (k + 1) = T at *
          have hcvT := conv_later hslT (k + 1) hTl
          clear hTl hslT
          clear hs hsm hroom hNb HBS HP HX HY HV
          by_cases hq : varL N' = T
          · have hB1 : ((bstr (varL N')).toList == (bstr T).toList) = true := by rw [HEQ.out]; exact decide_eq_true hq
            have HST := Lib.hid (HST.out.trans (if_pos hq))
            clear HEQ hq
            go_wp2_with fail
            refine wp_region_noPanic ?_
            refine wp_region_held_drew (S := fun w' => Below wr.heap.size wr w') (by kernel_rfl) ((Below.refl _ _).drew) (fun hHeld => ?_)
            have hAll := hHeld
            refine rtake 0 _ (some 34) _ rfl rfl (by kernel_rfl) (by kernel_rfl) (by kernel_rfl) (fun _ _ _ h => h) (by rfl) hHeld (by intro w hS; go_simp; try with_reducible rfl) ?_
            try (rw [put_some]; dsimp only [List.set])
            refine rtake 3 _ (some 37) _ rfl rfl (by kernel_rfl) (by kernel_rfl) (by kernel_rfl) (fun _ _ _ h => h) (by rfl) hHeld (by intro w hS; go_simp; try with_reducible rfl) ?_
            try (rw [put_some]; dsimp only [List.set])
            refine rtake 4 _ (some 38) _ rfl rfl (by kernel_rfl) (by kernel_rfl) (by kernel_rfl) (fun _ _ _ h => h) (by rfl) hHeld (by intro w hS; go_simp; try with_reducible rfl) ?_
            try (rw [put_some]; dsimp only [List.set])
            refine rtake 5 _ (some 39) _ rfl rfl (by kernel_rfl) (by kernel_rfl) (by kernel_rfl) (fun _ _ _ h => h) (by rfl) hHeld (by intro w hS; go_simp; try with_reducible rfl) ?_
            try (rw [put_some]; dsimp only [List.set])
            refine rtake 6 _ (some 40) _ rfl rfl (by kernel_rfl) (by kernel_rfl) (by kernel_rfl) (fun _ _ _ h => h) (by rfl) hHeld (by intro w hS; go_simp; try with_reducible rfl) ?_
            try (rw [put_some]; dsimp only [List.set])
            refine rtake 7 _ (some 41) _ rfl rfl (by kernel_rfl) (by kernel_rfl) (by kernel_rfl) (fun _ _ _ h => h) (by rfl) hHeld (by intro w hS; go_simp; try with_reducible rfl) ?_
            try (rw [put_some]; dsimp only [List.set])
            refine wpAnyH_ready (rs := [1]) (by kernel_rfl) (by simp) (AllReadyH.cons (o := _) rfl (fun K hK => ?_) AllReadyH.nil)
            go_simp
            refine (rbytes8_any N' hN' _).mono ?_; rintro e w5 ⟨v5, rfl, hown5, hb5⟩; have hAll5 := below_step hHeld hb5; obtain ⟨A5, c5, rfl, _, hsl5⟩ := Sl.of_own hown5; have hcv5 := conv_later hsl5 _ rfl; clear hown5
            try go_wp2_with fail
            refine hK.out _ _ (below_step hHeld hb5) (fun _ => ?_)
            clear hK K
            try (rw [put_some]; dsimp only [List.set])
            have hAll := below_step hAll hb5
            refine wpAnyH_narrow (S' := fun w' => Below w5.heap.size w5 w') (fun _ h => below_step (below_step hHeld hb5) h) _ _ _ _ ?_
            clear hHeld
            have hHeld : Below w5.heap.size w5 w5 := Below.refl _ _
            refine rtake 2 _ (some 36) _ rfl rfl (by kernel_rfl) (by kernel_rfl) (by kernel_rfl) (fun _ _ _ h => h) (by rfl) hHeld (by intro w hS; go_simp; try with_reducible rfl) ?_
            try (rw [put_some]; dsimp only [List.set])
            refine rtake 8 _ (some 42) _ rfl rfl (by kernel_rfl) (by kernel_rfl) (by kernel_rfl) (fun _ _ _ h => h) (by rfl) hHeld (by intro w hS; go_simp; try with_reducible rfl) ?_
            try (rw [put_some]; dsimp only [List.set])
            refine wpAnyH_done (by kernel_rfl) ?_ _
            refine NoPanic.normal ?_
            go_wp2
            go_ret2
            exact ⟨by rw [HST.out]; rfl, hb.trans (hAll.mono hb.size)⟩
          · have hB1 : ((bstr (varL N')).toList == (bstr T).toList) = false := by rw [HEQ.out]; exact decide_eq_false hq
            have HST := Lib.hid (HST.out.trans (if_neg hq))
            clear HEQ hq
            go_wp2_with fail
            refine wp_region_noPanic ?_
            refine wp_region_held_drew (S := fun w' => Below wr.heap.size wr w') (by kernel_rfl) ((Below.refl _ _).drew) (fun hHeld => ?_)
            have hAll := hHeld
            refine rtake 0 _ (some 34) _ rfl rfl (by kernel_rfl) (by kernel_rfl) (by kernel_rfl) (fun _ _ _ h => h) (by rfl) hHeld (by intro w hS; go_simp; try with_reducible rfl) ?_
            try (rw [put_some]; dsimp only [List.set])
            refine rtake 3 _ (some 37) _ rfl rfl (by kernel_rfl) (by kernel_rfl) (by kernel_rfl) (fun _ _ _ h => h) (by rfl) hHeld (by intro w hS; go_simp; try with_reducible rfl) ?_
            try (rw [put_some]; dsimp only [List.set])
            refine rtake 4 _ (some 38) _ rfl rfl (by kernel_rfl) (by kernel_rfl) (by kernel_rfl) (fun _ _ _ h => h) (by rfl) hHeld (by intro w hS; go_simp; try with_reducible rfl) ?_
            try (rw [put_some]; dsimp only [List.set])
            refine rtake 5 _ (some 39) _ rfl rfl (by kernel_rfl) (by kernel_rfl) (by kernel_rfl) (fun _ _ _ h => h) (by rfl) hHeld (by intro w hS; go_simp; try with_reducible rfl) ?_
            try (rw [put_some]; dsimp only [List.set])
            refine rtake 6 _ (some 40) _ rfl rfl (by kernel_rfl) (by kernel_rfl) (by kernel_rfl) (fun _ _ _ h => h) (by rfl) hHeld (by intro w hS; go_simp; try with_reducible rfl) ?_
            try (rw [put_some]; dsimp only [List.set])
            refine rtake 7 _ (some 41) _ rfl rfl (by kernel_rfl) (by kernel_rfl) (by kernel_rfl) (fun _ _ _ h => h) (by rfl) hHeld (by intro w hS; go_simp; try with_reducible rfl) ?_
            try (rw [put_some]; dsimp only [List.set])
            refine wpAnyH_ready (rs := [1]) (by kernel_rfl) (by simp) (AllReadyH.cons (o := _) rfl (fun K hK => ?_) AllReadyH.nil)
            go_simp
            refine (rbytes8_any N' hN' _).mono ?_; rintro e w5 ⟨v5, rfl, hown5, hb5⟩; have hAll5 := below_step hHeld hb5; obtain ⟨A5, c5, rfl, _, hsl5⟩ := Sl.of_own hown5; have hcv5 := conv_later hsl5 _ rfl; clear hown5
            try go_wp2_with fail
            refine hK.out _ _ (below_step hHeld hb5) (fun _ => ?_)
            clear hK K
            try (rw [put_some]; dsimp only [List.set])
            have hAll := below_step hAll hb5
            refine wpAnyH_narrow (S' := fun w' => Below w5.heap.size w5 w') (fun _ h => below_step (below_step hHeld hb5) h) _ _ _ _ ?_
            clear hHeld
            have hHeld : Below w5.heap.size w5 w5 := Below.refl _ _
            refine rtake 2 _ (some 36) _ rfl rfl (by kernel_rfl) (by kernel_rfl) (by kernel_rfl) (fun _ _ _ h => h) (by rfl) hHeld (by intro w hS; go_simp; try with_reducible rfl) ?_
            try (rw [put_some]; dsimp only [List.set])
            refine rtake 8 _ (some 42) _ rfl rfl (by kernel_rfl) (by kernel_rfl) (by kernel_rfl) (fun _ _ _ h => h) (by rfl) hHeld (by intro w hS; go_simp; try with_reducible rfl) ?_
            try (rw [put_some]; dsimp only [List.set])
            refine wpAnyH_done (by kernel_rfl) ?_ _
            refine NoPanic.normal ?_
            go_wp2
            go_ret2
            exact ⟨by rw [HST.out]; rfl, hb.trans (hAll.mono hb.size)⟩
        · have hsm' : ¬ (y : Int) < 128 := by omega
          have hsm2 : (128 : Int) ≤ (y : Int) := by omega
          go_wp2_with fail
          go_roundw
          case rel => exact ⟨k + 1, by omega, by omega, by go_num, by rw [HN'.out], by rw [HB'.out], HBS.out (by rw [← HY.out]; omega), hb⟩
          case measure => simp [intOf]; omega
      · have hk0 : k = 10 := by omega
        have HG := Lib.hid (getL_none l k (.inl hk0) hk10 hk hbig)
        have hkk : ¬ (k : Int) < 10 := by omega
        have hkl : (k : Int) < (l.length : Int) := by omega
        clear hs hbig hk0
        generalize 128 ^ k % 18446744073709551616 = B at *
        generalize valL (l.take k) % 18446744073709551616 = N at *
        go_wp2
        go_ret2
        exact ⟨by rw [HG.out]; rfl, hb⟩
    · have hk0 : k = l.length := by omega
      have HG := Lib.hid (getL_none l k (.inr hk0) hk10 hk hbig)
      have hkl : ¬ (k : Int) < (l.length : Int) := by omega
      clear hs hbig hk0 hlt hk
      generalize 128 ^ k % 18446744073709551616 = B at *
      generalize valL (l.take k) % 18446744073709551616 = N at *
      go_wp2
      go_ret2
      exact ⟨by rw [HG.out]; rfl, hb⟩
end Go.Proofs.Ythiebbhooigogaa
