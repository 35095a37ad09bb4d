/- LAYER 9: what the laws call: same, fieldAlive. -/
import Derived.Test.YtlbmhoangmmhdaaH9
namespace Go.Proofs.Ytlbmhoangmmhdaa
open Go Go.RowKit

theorem take_both {fs gs : List Fd} {k : Nat} {f g : Fd} (h : fs.take k = gs.take k) (hf : fs[k]? = some f) (hg : gs[k]? = some g) (e : f = g) : fs.take (k + 1) = gs.take (k + 1) := by
  rw [List.take_add_one, List.take_add_one, h, hf, hg, e]
theorem ne_both {fs gs : List Fd} {k : Nat} {f g : Fd} (hf : fs[k]? = some f) (hg : gs[k]? = some g) (e : f ≠ g) : fs ≠ gs := fun h => by
  subst h
  rw [hf] at hg
  exact e (Option.some.inj hg)
set_option maxRecDepth 20000 in
set_option maxHeartbeats 2000000 in
theorem fsame_any (A : Option Addr) (n c : Nat) (fs : List Fd) (B : Option Addr) (m d : Nat) (gs : List Fd) (w : World) (hs : Sl w A (c * 2) (fs.flatMap fdV)) (hn : n = fs.length) (hp : Sl w B (d * 2) (gs.flatMap fdV)) (hm : m = gs.length) (hl : fs.length ≤ 1000000) :
    Calls Try.prog 11 #[.slice A n c, .slice B m d] w fun e w' => e = .returned (.bool (decide (fs = gs))) ∧ Below w.heap.size w w' := by
  subst hn hm
  by_cases hlen : fs.length = gs.length
  · have hle : ((fs.length : Int) == (gs.length : Int)) = true := by rw [hlen]; simp
    have hle2 : (fs.length : Int) = (gs.length : Int) := by rw [hlen]
    have HLN := Lib.hid hlen
    clear hlen
    go_enter Try.func11, Try.ntmps11
    go_wp2_with fail
    go_loopw [13] (fun i wr => ∃ k : Nat, k ≤ fs.length ∧ i = .int .i64 k ∧ fs.take k = gs.take k ∧ Below w.heap.size w wr) (fun i _ => fs.length - (intOf i).toNat)
    case atStart => exact ⟨0, by omega, rfl, rfl, Below.refl _ _⟩
    case round =>
      obtain ⟨k, hk, rfl, ht, hb⟩ := hrel
      by_cases hlt : k < fs.length
      · have hltg : k < gs.length := by rw [← HLN.out]; exact hlt
        obtain ⟨f, hf⟩ : ∃ f, fs[k]? = some f := ⟨_, List.getElem?_eq_getElem hlt⟩
        obtain ⟨g, hg⟩ : ∃ g, gs[k]? = some g := ⟨_, List.getElem?_eq_getElem hltg⟩
        obtain ⟨b1, o1, rfl, _, _⟩ := hs.rd.get (i := 0) (by rw [length_fdsV]; omega)
        obtain ⟨b2, o2, rfl, _, _⟩ := hp.rd.get (i := 0) (by rw [length_fdsV]; omega)
        have hix1 := index_ff (some ⟨b1, o1, none⟩) b1 o1 fs.length c k rfl hlt
        have hix2 := index_fd (some ⟨b2, o2, none⟩) b2 o2 gs.length d k rfl hltg
        obtain ⟨V, hV⟩ : ∃ V, V = fdV f := ⟨_, rfl⟩
        obtain ⟨U, hU⟩ : ∃ U, U = fdV g := ⟨_, rfl⟩
        have hgV := Lib.hid (show ∀ w', Below wr.heap.size wr w' → w'.rangeAt b1 (o1 + k * 2) V from fun w' h => by rw [hV]; exact ((hs.later (Nat.le_refl _) hb).later (Nat.le_refl _) h).thing (k := 2) (fun _ _ => rfl) k f hf)
        have hgU := Lib.hid (show ∀ w', Below wr.heap.size wr w' → w'.rangeAt b2 (o2 + k * 2) U from fun w' h => by rw [hU]; exact ((hp.later (Nat.le_refl _) hb).later (Nat.le_refl _) h).thing (k := 2) (fun _ _ => rfl) k g hg)
        have hzV := Lib.hid (show (Try.prog.info? 27).map (·.size) = some V.length by rw [hV]; exact size_ff)
        have hzU := Lib.hid (show (Try.prog.info? 30).map (·.size) = some U.length by rw [hU]; exact size_fd)
        have hE0 := fun w => run_eq_fd f g w
        rw [← hV, ← hU] at hE0
        clear hV hU
        have hkl : (k : Int) < (fs.length : Int) := by omega
        by_cases e : f = g
        · have hE : ∀ w, (Op.equalIn 10000 27 (.agg V.toArray) (.agg U.toArray)).run Try.prog w = .ok true w := fun w => (hE0 w).trans (by rw [decide_eq_true e])
          have HT := Lib.hid (take_both ht hf hg e)
          clear hE0 ht hf hg e
          go_wp2_with fail
          refine wp_region_noPanic ?_
          refine wp_region_held_drew (S := fun w' => Below wr.heap.size wr w') (by kernel_rfl) ((Below.refl _ _).drew) (fun hHeld => ?_)
          have hB := hHeld
          refine rtake 0 _ (some 16) _ rfl rfl (by kernel_rfl) (by kernel_rfl) (by kernel_rfl) (fun _ _ _ h => h) (by rfl) hHeld (by intro w hS; go_simp; try with_reducible rfl) ?_
          try (first | (rw [put_some]; dsimp only [List.set]) | rw [put_none])
          refine rtake 1 _ (some 17) _ rfl rfl (by kernel_rfl) (by kernel_rfl) (by kernel_rfl) (fun _ _ _ h => h) (by rfl) hHeld (by intro w hS; go_simp; try with_reducible rfl) ?_
          try (first | (rw [put_some]; dsimp only [List.set]) | rw [put_none])
          refine rtake 2 _ (some 18) _ rfl rfl (by kernel_rfl) (by kernel_rfl) (by kernel_rfl) (fun _ _ _ h => h) (by rfl) hHeld (by intro w hS; go_simp; try with_reducible rfl) ?_
          try (first | (rw [put_some]; dsimp only [List.set]) | rw [put_none])
          refine rtake 3 _ (some 19) _ rfl rfl (by kernel_rfl) (by kernel_rfl) (by kernel_rfl) (fun _ _ _ h => h) (by rfl) hHeld (by intro w hS; exact run_load_op 27 (.tmp 18) rfl b1 (o1 + k * 2) rfl V _ (hgV.out _ hS) Try.underlying27 rfl hzV.out) ?_
          try (first | (rw [put_some]; dsimp only [List.set]) | rw [put_none])
          refine rtake 4 _ (some 20) _ rfl rfl (by kernel_rfl) (by kernel_rfl) (by kernel_rfl) (fun _ _ _ h => h) (by rfl) hHeld (by intro w hS; go_simp; try with_reducible rfl) ?_
          try (first | (rw [put_some]; dsimp only [List.set]) | rw [put_none])
          refine rtake 5 _ (some 21) _ rfl rfl (by kernel_rfl) (by kernel_rfl) (by kernel_rfl) (fun _ _ _ h => h) (by rfl) hHeld (by intro w hS; go_simp; try with_reducible rfl) ?_
          try (first | (rw [put_some]; dsimp only [List.set]) | rw [put_none])
          refine rtake 6 _ (some 22) _ rfl rfl (by kernel_rfl) (by kernel_rfl) (by kernel_rfl) (fun _ _ _ h => h) (by rfl) hHeld (by intro w hS; go_simp; try with_reducible rfl) ?_
          try (first | (rw [put_some]; dsimp only [List.set]) | rw [put_none])
          refine rtake 7 _ (some 23) _ rfl rfl (by kernel_rfl) (by kernel_rfl) (by kernel_rfl) (fun _ _ _ h => h) (by rfl) hHeld (by intro w hS; exact run_load_op 30 (.tmp 22) rfl b2 (o2 + k * 2) rfl U _ (hgU.out _ hS) Try.underlying30 rfl hzU.out) ?_
          try (first | (rw [put_some]; dsimp only [List.set]) | rw [put_none])
          refine rtake 8 _ (some 24) _ rfl rfl (by kernel_rfl) (by kernel_rfl) (by kernel_rfl) (fun _ _ _ h => h) (by rfl) hHeld (by intro w hS; go_simp; try with_reducible rfl) ?_
          try (first | (rw [put_some]; dsimp only [List.set]) | rw [put_none])
          refine wpAnyH_done (by kernel_rfl) ?_ _
          refine NoPanic.normal ?_
          clear hHeld
          have hbw9 := hb.drew
          go_wp2_with fail
          go_roundw
          case rel => exact ⟨k + 1, by omega, by go_num, HT.out, hbw9⟩
          case measure => simp [intOf]; omega
        · have hE : ∀ w, (Op.equalIn 10000 27 (.agg V.toArray) (.agg U.toArray)).run Try.prog w = .ok false w := fun w => (hE0 w).trans (by rw [decide_eq_false e])
          have HD := Lib.hid (show decide (fs = gs) = false from decide_eq_false (ne_both hf hg e))
          clear hE0 ht hf hg e
          go_wp2_with fail
          refine wp_region_noPanic ?_
          refine wp_region_held_drew (S := fun w' => Below wr.heap.size wr w') (by kernel_rfl) ((Below.refl _ _).drew) (fun hHeld => ?_)
          have hB := hHeld
          refine rtake 0 _ (some 16) _ rfl rfl (by kernel_rfl) (by kernel_rfl) (by kernel_rfl) (fun _ _ _ h => h) (by rfl) hHeld (by intro w hS; go_simp; try with_reducible rfl) ?_
          try (first | (rw [put_some]; dsimp only [List.set]) | rw [put_none])
          refine rtake 1 _ (some 17) _ rfl rfl (by kernel_rfl) (by kernel_rfl) (by kernel_rfl) (fun _ _ _ h => h) (by rfl) hHeld (by intro w hS; go_simp; try with_reducible rfl) ?_
          try (first | (rw [put_some]; dsimp only [List.set]) | rw [put_none])
          refine rtake 2 _ (some 18) _ rfl rfl (by kernel_rfl) (by kernel_rfl) (by kernel_rfl) (fun _ _ _ h => h) (by rfl) hHeld (by intro w hS; go_simp; try with_reducible rfl) ?_
          try (first | (rw [put_some]; dsimp only [List.set]) | rw [put_none])
          refine rtake 3 _ (some 19) _ rfl rfl (by kernel_rfl) (by kernel_rfl) (by kernel_rfl) (fun _ _ _ h => h) (by rfl) hHeld (by intro w hS; exact run_load_op 27 (.tmp 18) rfl b1 (o1 + k * 2) rfl V _ (hgV.out _ hS) Try.underlying27 rfl hzV.out) ?_
          try (first | (rw [put_some]; dsimp only [List.set]) | rw [put_none])
          refine rtake 4 _ (some 20) _ rfl rfl (by kernel_rfl) (by kernel_rfl) (by kernel_rfl) (fun _ _ _ h => h) (by rfl) hHeld (by intro w hS; go_simp; try with_reducible rfl) ?_
          try (first | (rw [put_some]; dsimp only [List.set]) | rw [put_none])
          refine rtake 5 _ (some 21) _ rfl rfl (by kernel_rfl) (by kernel_rfl) (by kernel_rfl) (fun _ _ _ h => h) (by rfl) hHeld (by intro w hS; go_simp; try with_reducible rfl) ?_
          try (first | (rw [put_some]; dsimp only [List.set]) | rw [put_none])
          refine rtake 6 _ (some 22) _ rfl rfl (by kernel_rfl) (by kernel_rfl) (by kernel_rfl) (fun _ _ _ h => h) (by rfl) hHeld (by intro w hS; go_simp; try with_reducible rfl) ?_
          try (first | (rw [put_some]; dsimp only [List.set]) | rw [put_none])
          refine rtake 7 _ (some 23) _ rfl rfl (by kernel_rfl) (by kernel_rfl) (by kernel_rfl) (fun _ _ _ h => h) (by rfl) hHeld (by intro w hS; exact run_load_op 30 (.tmp 22) rfl b2 (o2 + k * 2) rfl U _ (hgU.out _ hS) Try.underlying30 rfl hzU.out) ?_
          try (first | (rw [put_some]; dsimp only [List.set]) | rw [put_none])
          refine rtake 8 _ (some 24) _ rfl rfl (by kernel_rfl) (by kernel_rfl) (by kernel_rfl) (fun _ _ _ h => h) (by rfl) hHeld (by intro w hS; go_simp; try with_reducible rfl) ?_
          try (first | (rw [put_some]; dsimp only [List.set]) | rw [put_none])
          refine wpAnyH_done (by kernel_rfl) ?_ _
          refine NoPanic.normal ?_
          clear hHeld
          have hbw9 := hb.drew
          go_wp2
          go_ret
          exact ⟨by rw [HD.out]; rfl, hbw9⟩
      · have hk0 : k = fs.length := by omega
        have HD := Lib.hid (show decide (fs = gs) = true from decide_eq_true (by rw [hk0, List.take_length, HLN.out, List.take_length] at ht; exact ht))
        have hkl : ¬ (k : Int) < (fs.length : Int) := by omega
        clear ht hs hp hlt hk hk0
        go_wp2
        go_ret
        exact ⟨by rw [HD.out]; rfl, hb⟩
  · have hle : ((fs.length : Int) == (gs.length : Int)) = false := by rw [beq_eq_false_iff_ne]; omega
    have HD := Lib.hid (show decide (fs = gs) = false from decide_eq_false (fun e => hlen (by rw [e])))
    clear hs hp
    go_enter Try.func11, Try.ntmps11
    go_wp2
    go_ret
    exact ⟨by rw [HD.out]; rfl, Below.refl _ _⟩
theorem alive_field : fieldL (7, [97, 98]) = [7, 2, 97, 98] := by decide +kernel
set_option maxRecDepth 20000 in
set_option maxHeartbeats 1000000 in
theorem falive_any (w : World) :
    Calls Try.prog 5 #[] w fun e w' => e = .returned (.bool true) ∧ Below w.heap.size w w' := by
  have hput := Lib.hid (show ∀ w1, Calls Try.prog 15 #[.slice none 0 0, .agg #[.int .u8 7, .string { data := #[97, 98] }]] w1 fun e w' => ∃ b o c, e = .returned (.slice (some ⟨b, o, none⟩) 4 c) ∧ w'.cell? ⟨b, o, none⟩ = some (.int .u8 7) ∧ w'.cell? ⟨b, o + 1, none⟩ = some (.int .u8 2) ∧ w'.cell? ⟨b, o + 2, none⟩ = some (.int .u8 97) ∧ w'.cell? ⟨b, o + 3, none⟩ = some (.int .u8 98) ∧ Below w1.heap.size w1 w' by
    intro w1
    have h := fput_any none 0 0 [] (7, [97, 98]) (by decide) w1 ⟨.inl rfl, Nat.le_refl _, fun _ => rfl⟩ rfl (by decide)
    rw [List.nil_append, alive_field] at h
    refine h.mono ?_
    rintro e w' ⟨v, rfl, hown, hb⟩
    obtain ⟨A', c', rfl, _, hsl⟩ := Sl.of_own hown
    obtain ⟨b, o, rfl, _, c0⟩ := hsl.rd.get (i := 0) (by rw [length_byts]; decide)
    obtain ⟨_, _, e1, _, c1⟩ := hsl.rd.get (i := 1) (by rw [length_byts]; decide)
    cases e1
    obtain ⟨_, _, e2, _, c2⟩ := hsl.rd.get (i := 2) (by rw [length_byts]; decide)
    cases e2
    obtain ⟨_, _, e3, _, c3⟩ := hsl.rd.get (i := 3) (by rw [length_byts]; decide)
    cases e3
    exact ⟨b, o, c', rfl, c0, c1, c2, c3, hb⟩)
  go_enter Try.func5, Try.ntmps5
  go_wp2_with (go_at_call 15; refine (hput.out _).mono ?_; rintro e w3 ⟨b, o, c, rfl, c0, c1, c2, c3, hb3⟩)
  go_ret
  exact ⟨rfl, hb3⟩
end Go.Proofs.Ytlbmhoangmmhdaa
