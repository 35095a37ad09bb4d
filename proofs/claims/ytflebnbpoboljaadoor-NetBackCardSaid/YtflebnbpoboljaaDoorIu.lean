/- LAYER 12: the document's Text of an address of V6. -/
import Derived.Test.YtflebnbpoboljaaDoorIt
namespace Go.Proofs.YtflebnbpoboljaaDoor
set_option maxRecDepth 100000
open Go Go.RowKit

theorem infoInt12 : (Tryd.prog.info? 3).map (fun i => (i.zero, i.size, i.bytes)) = some (some (.int .i64 0), 1, 8) := by kernel_rfl
theorem sl_made {w w' : World} {t : TypeId} (xs : List Value) (h : w' = w.alloc (.cells xs.toArray t)) (n : Nat) (hn : xs.length = n) : Sl w' (some ⟨w.heap.size, 0, none⟩) n xs := by
  subst h hn
  exact ⟨Rd.row (ys := []) (by rw [List.append_nil]; exact Row.new w t xs), Nat.le_refl _, fun h => by cases h⟩
def numA (a : Adr) (i : Nat) : Nat := (a.b.getD (2 * i) 0).toNat * 256 + (a.b.getD (2 * i + 1) 0).toNat
theorem numsA_eq (a : Adr) : numsA a = (List.range 8).map (numA a) := rfl
theorem numA_le (a : Adr) (i : Nat) : numA a i ≤ 65535 := by
  unfold numA
  have := (a.b.getD (2 * i) 0).toNat_lt
  have := (a.b.getD (2 * i + 1) 0).toNat_lt
  omega
def bestK (l : List Nat) (k : Nat) : Nat := (List.range k).foldl (fun best i => if zerosL (l.drop i) > zerosL (l.drop best) then i else best) 0
theorem bestK_succ (l : List Nat) (k : Nat) : bestK l (k + 1) = if zerosL (l.drop k) > zerosL (l.drop (bestK l k)) then k else bestK l k := by
  unfold bestK
  rw [List.range_succ, List.foldl_append]; rfl
theorem bestK_le (l : List Nat) (k : Nat) : bestK l k ≤ k := by
  induction k with
  | zero => exact Nat.le_refl _
  | succ k ih => rw [bestK_succ]; split <;> omega
/-- A slice's parts 'l[:i]', 'l[i:]'. -/
theorem cut_ints (A : Option Addr) (c : Nat) (l : List Nat) (w0 : World) (h : Sl w0 A c (intsV l)) (i : Nat) (hi : i ≤ l.length) :
    (∃ A' c', (∀ w, (Instr.sliceAt 55 (.slice A l.length c) none (some (.int .i64 i)) none).run Tryd.prog w = .ok (.slice A' i c') w) ∧ Sl w0 A' c' (intsV (l.take i))) ∧
    (∃ A' c', (∀ w, (Instr.sliceAt 55 (.slice A l.length c) (some (.int .i64 i)) none none).run Tryd.prog w = .ok (.slice A' (l.length - i) c') w) ∧ Sl w0 A' c' (intsV (l.drop i))) := by
  have hr := h.room
  rw [length_intsV] at hr
  rw [intsV_take, intsV_drop]
  cases A with
  | none =>
    have hc := h.bare rfl
    subst hc
    have hl : l.length = 0 := by omega
    obtain rfl : l = [] := List.eq_nil_of_length_eq_zero hl
    have ei : i = 0 := by simpa using hi
    subst ei
    clear hr hl hi
    refine ⟨⟨none, 0, fun w => ?_, h⟩, ⟨none, 0, fun w => ?_, h⟩⟩
    · clear h; go_simp
    · clear h; go_simp
  | some a =>
    refine ⟨⟨some a, c, fun w => ?_, h.take⟩, ⟨some (if c = i then a else a.add i), c - i, fun w => ?_, ?_⟩⟩
    · have h2 : (i : Int) ≤ (c : Int) := by omega
      clear h hi hr
      go_simp
    · have h3 : (i : Int) ≤ (l.length : Int) := by omega
      have h2 : (l.length : Int) ≤ (c : Int) := by omega
      have h4 : ((l.length : Int) - (i : Int)).toNat = l.length - i := by omega
      clear h hi hr
      generalize l.length = n at *
      go_simp
      split <;> rfl
    · by_cases h0 : 0 < l.length
      · obtain ⟨b, o, he, _⟩ := h.rd.get (i := 0) (by rw [length_intsV]; exact h0)
        cases he
        rw [Addr.add_lit]
        exact h.from (by rw [length_intsV]; omega) rfl
      · obtain rfl : l = [] := List.eq_nil_of_length_eq_zero (by omega)
        exact ⟨.inl (by simp [intsV]), by simp [intsV], fun h => by cases h⟩
set_option maxHeartbeats 2000000 in
theorem rtext_six (a : Adr) (h : a.Ok) (h6 : a.v6 = true) (w : World) :
    Calls Tryd.prog 31 #[.agg (adrV a).toArray] w fun e w' => e = .returned (.string (bstr (textA a))) ∧ Below w.heap.size w w' := by
  obtain ⟨i0, hi, hz0, hz1, hz2⟩ := info_parts infoInt12
  obtain ⟨w1, hw1⟩ : ∃ w1, w1 = w.alloc (.cells (adrV a).toArray 24) := ⟨_, rfl⟩
  have hr : Row w1 w.heap.size 24 (adrV a) := by rw [hw1]; exact Row.new w _ _
  have hb : Below w.heap.size w w1 := by rw [hw1]; exact (Below.refl _ w).alloc (Nat.le_refl _) _
  have hchk := Lib.hid (rcheckA_any a h)
  have hT := row_range hr
  have hrl := fun w' (h : Below w1.heap.size w1 w') => hr.later h hr.lt
  have hc : checkA a = true := by unfold checkA; rw [h6]; rfl
  have HT := Lib.hid (show textA a = textN (numsA a) by unfold textA; rw [hc, h6]; rfl)
  have hE := Lib.hid (fun w' (hq : Below w1.heap.size w1 w') => adr_cell h (hrl w' hq))
  have hE6 := Lib.hid (fun w' (hq : Below w1.heap.size w1 w') => adr_v6 (hrl w' hq))
  rw [h6] at hE6
  obtain ⟨V, hV⟩ : ∃ V, V = adrV a := ⟨_, rfl⟩
  have hl := Lib.hid (show (Tryd.prog.info? 24).map (·.size) = some V.length by rw [hV, length_adrV h, size_adr])
  rw [← hV] at hw1 hchk hT ⊢
  rw [hc] at hchk
  clear hV hr hrl
  go_enter Tryd.func31, Tryd.ntmps31
  subst hw1
  go_wp2_with (first
    | (with_reducible refine wpList_load_mid rfl 24 (.tmp 1) rfl w.heap.size 0 rfl V _ hT Tryd.underlying24 rfl hl.out ?_)
    | (go_at_call 26; refine (hchk.out _).mono ?_; rintro e w2 ⟨rfl, hb2⟩; have h6c := hE6.out _ hb2; have hown0 : (w2.alloc (.cells #[] 3)).ownsRow w2.heap.size 3 1 (.slice (some ⟨w2.heap.size, 0, none⟩) 0 0) 0 (intsV []) := World.ownsRow_lit w2 (e := 3) (size := 1) #[] 0 (Nat.le_refl _) (by unfold maxLen; omega) rfl))
  have hE : ∀ w', Below w2.heap.size w2 w' → ∀ k, k < 16 → w'.cell? ⟨w.heap.size, 1 + k, none⟩ = some (.int .u8 ((a.b.getD k 0).toNat : Int)) := fun w' hq => hE.out w' (hb2.trans (hq.mono hb2.size))
  have hb2 := hb.trans (hb2.mono hb.size)
  have hbr0 : Below w2.heap.size w2 (w2.alloc (.cells #[] 3)) := (Below.refl _ w2).alloc (Nat.le_refl _) _
  clear hT hb hE6
  go_loopw [3, 4] (fun v i wr => ∃ k : Nat, k ≤ 8 ∧ i = .int .i64 k ∧ wr.ownsRow w2.heap.size 3 1 v k (intsV ((List.range k).map (numA a))) ∧ Below w2.heap.size w2 wr) (fun _ i _ => 8 - (intOf i).toNat)
  case atStart => exact ⟨0, by omega, rfl, hown0, hbr0⟩
  case round =>
    clear hown0 hbr0
    obtain ⟨k, hk, rfl, hown, hbr⟩ := hrel
    by_cases hlt : k < 8
    · have hc1 : ∀ w', Below w2.heap.size w2 w' → w'.cell? ⟨w.heap.size, 1 + 2 * k, none⟩ = some (.int .u8 ((a.b.getD (2 * k) 0).toNat : Int)) := fun w' hq => hE w' hq (2 * k) (by omega)
      have hc2 : ∀ w', Below w2.heap.size w2 w' → w'.cell? ⟨w.heap.size, 1 + (2 * k + 1), none⟩ = some (.int .u8 ((a.b.getD (2 * k + 1) 0).toNat : Int)) := fun w' hq => hE w' hq (2 * k + 1) (by omega)
      have HN := Lib.hid (show (List.range (k + 1)).map (numA a) = (List.range k).map (numA a) ++ [(a.b.getD (2 * k) 0).toNat * 256 + (a.b.getD (2 * k + 1) 0).toNat] by rw [List.range_succ, List.map_append]; rfl)
      have hlt' : (k : Int) < 8 := by omega
      generalize a.b.getD (2 * k) 0 = x at *
      generalize a.b.getD (2 * k + 1) 0 = y at *
      have hx := x.toNat_lt
      have hy := y.toNat_lt
      have hI0 : IntKind.i64.wrap (2 * (k : Int)) = 2 * (k : Int) := by rw [IntKind.wrap_i64]; omega
      have hI1 : (0 : Int) ≤ 2 * (k : Int) := by omega
      have hI2 : 2 * (k : Int) < 16 := by omega
      have hI3 : (2 * (k : Int)).toNat = 2 * k := by omega
      have hJ0 : IntKind.i64.wrap (2 * (k : Int) + 1) = 2 * (k : Int) + 1 := by rw [IntKind.wrap_i64]; omega
      have hJ1 : (0 : Int) ≤ 2 * (k : Int) + 1 := by omega
      have hJ2 : 2 * (k : Int) + 1 < 16 := by omega
      have hJ3 : (2 * (k : Int) + 1).toNat = 2 * k + 1 := by omega
      have hX0 : IntKind.i64.wrap (x.toNat : Int) = (x.toNat : Int) := by rw [IntKind.wrap_i64]; omega
      have hY0 : IntKind.i64.wrap (y.toNat : Int) = (y.toNat : Int) := by rw [IntKind.wrap_i64]; omega
      obtain ⟨n, hn⟩ : ∃ n, n = x.toNat * 256 + y.toNat := ⟨_, rfl⟩
      rw [← hn] at HN
      have hX1 : IntKind.i64.wrap ((x.toNat : Int) * 256) = (x.toNat : Int) * 256 := by rw [IntKind.wrap_i64]; omega
      have hX2 : IntKind.i64.wrap ((x.toNat : Int) * 256 + (y.toNat : Int)) = (n : Int) := by rw [IntKind.wrap_i64]; omega
      clear hn hE
      go_wp2_with fail
      refine wp_region_noPanic ?_
      refine wp_region_held_drew (S := fun w' => Below w2.heap.size w2 w') (by kernel_rfl) (hbr.drew) (fun hHeld => ?_)
      refine rtake 0 _ (some 45) _ rfl rfl (by kernel_rfl) (by kernel_rfl) (by kernel_rfl) (fun _ _ _ h => h) (by rfl) hHeld (by intro w hS; go_simp; try with_reducible rfl) ?_
      try (first | (rw [put_some]; dsimp only [List.set]) | rw [put_none])
      refine rtake 1 _ (some 46) _ rfl rfl (by kernel_rfl) (by kernel_rfl) (by kernel_rfl) (fun _ _ _ h => h) (by rfl) hHeld (by intro w hS; go_simp; try with_reducible rfl) ?_
      try (first | (rw [put_some]; dsimp only [List.set]) | rw [put_none])
      refine rtake 2 _ (some 47) _ rfl rfl (by kernel_rfl) (by kernel_rfl) (by kernel_rfl) (fun _ _ _ h => h) (by rfl) hHeld (by intro w hS; go_simp; try with_reducible rfl) ?_
      try (first | (rw [put_some]; dsimp only [List.set]) | rw [put_none])
      refine rtake 3 _ (some 48) _ rfl rfl (by kernel_rfl) (by kernel_rfl) (by kernel_rfl) (fun _ _ _ h => h) (by rfl) hHeld (by intro w hS; go_simp; try with_reducible rfl) ?_
      try (first | (rw [put_some]; dsimp only [List.set]) | rw [put_none])
      refine rtake 4 _ (some 49) _ rfl rfl (by kernel_rfl) (by kernel_rfl) (by kernel_rfl) (fun _ _ _ h => h) (by rfl) hHeld (by intro w hS; go_simp; try with_reducible rfl) ?_
      try (first | (rw [put_some]; dsimp only [List.set]) | rw [put_none])
      refine rtake 5 _ (some 50) _ rfl rfl (by kernel_rfl) (by kernel_rfl) (by kernel_rfl) (fun _ _ _ h => h) (by rfl) hHeld (by intro w hS; go_simp; try with_reducible rfl) ?_
      try (first | (rw [put_some]; dsimp only [List.set]) | rw [put_none])
      refine rtake 6 _ (some 51) _ rfl rfl (by kernel_rfl) (by kernel_rfl) (by kernel_rfl) (fun _ _ _ h => h) (by rfl) hHeld (by intro w hS; go_simp; try with_reducible rfl) ?_
      try (first | (rw [put_some]; dsimp only [List.set]) | rw [put_none])
      refine rtake 7 _ (some 52) _ rfl rfl (by kernel_rfl) (by kernel_rfl) (by kernel_rfl) (fun _ _ _ h => h) (by rfl) hHeld (by intro w hS; go_simp; try with_reducible rfl) ?_
      try (first | (rw [put_some]; dsimp only [List.set]) | rw [put_none])
      refine rtake 8 _ (some 53) _ rfl rfl (by kernel_rfl) (by kernel_rfl) (by kernel_rfl) (fun _ _ _ h => h) (by rfl) hHeld (by intro w hS; go_simp; try with_reducible rfl) ?_
      try (first | (rw [put_some]; dsimp only [List.set]) | rw [put_none])
      refine rtake 9 _ (some 54) _ rfl rfl (by kernel_rfl) (by kernel_rfl) (by kernel_rfl) (fun _ _ _ h => h) (by rfl) hHeld (by intro w hS; go_simp; try with_reducible rfl) ?_
      try (first | (rw [put_some]; dsimp only [List.set]) | rw [put_none])
      refine rtake 10 _ (some 55) _ rfl rfl (by kernel_rfl) (by kernel_rfl) (by kernel_rfl) (fun _ _ _ h => h) (by rfl) hHeld (by intro w hS; go_simp; try with_reducible rfl) ?_
      try (first | (rw [put_some]; dsimp only [List.set]) | rw [put_none])
      refine rtake 11 _ (some 56) _ rfl rfl (by kernel_rfl) (by kernel_rfl) (by kernel_rfl) (fun _ _ _ h => h) (by rfl) hHeld (by intro w hS; go_simp; try with_reducible rfl) ?_
      try (first | (rw [put_some]; dsimp only [List.set]) | rw [put_none])
      refine rtake 12 _ (some 57) _ rfl rfl (by kernel_rfl) (by kernel_rfl) (by kernel_rfl) (fun _ _ _ h => h) (by rfl) hHeld (by intro w hS; go_simp; try with_reducible rfl) ?_
      try (first | (rw [put_some]; dsimp only [List.set]) | rw [put_none])
      refine rtake 13 _ (some 58) _ rfl rfl (by kernel_rfl) (by kernel_rfl) (by kernel_rfl) (fun _ _ _ h => h) (by rfl) hHeld (by intro w hS; go_simp; try with_reducible rfl) ?_
      try (first | (rw [put_some]; dsimp only [List.set]) | rw [put_none])
      refine rtake 14 _ (some 59) _ rfl rfl (by kernel_rfl) (by kernel_rfl) (by kernel_rfl) (fun _ _ _ h => h) (by rfl) hHeld (by intro w hS; go_simp; try with_reducible rfl) ?_
      try (first | (rw [put_some]; dsimp only [List.set]) | rw [put_none])
      refine rtake 15 _ (some 60) _ rfl rfl (by kernel_rfl) (by kernel_rfl) (by kernel_rfl) (fun _ _ _ h => h) (by rfl) hHeld (by intro w hS; go_simp; try with_reducible rfl) ?_
      try (first | (rw [put_some]; dsimp only [List.set]) | rw [put_none])
      refine wpAnyH_ready (rs := [16]) (by kernel_rfl) (by simp) (AllReadyH.cons (o := _) rfl (fun K hK => ?_) AllReadyH.nil)
      refine step_alloc (some 61) rfl (by rfl) (.slice (some ⟨wr.heap.size, 0, none⟩) 1 1) (.cells (intsV [n]).toArray 3) (by go_simp; try rfl) ?_; intro w4 hw4 hb4; have hq4 := hHeld.trans (hb4.mono hHeld.size); have hsl4 : Sl w4 (some ⟨wr.heap.size, 0, none⟩) 1 (intsV [n]) := (by rw [hw4]; exact ⟨Rd.block (Go.heap_alloc_new wr.drew _), Nat.le_refl _, fun h => by cases h⟩); have hown4 := own_later hown ((Below.refl wr.heap.size wr).drew.trans hb4) (Nat.le_refl _); clear hw4
      refine hK.out _ _ (hq4) (fun hHeld => ?_)
      clear hK K
      try (first | (rw [put_some]; dsimp only [List.set]) | rw [put_none])
      refine wpAnyH_ready (rs := [17]) (by kernel_rfl) (by simp) (AllReadyH.cons (o := _) rfl (fun K hK => ?_) AllReadyH.nil)
      refine step_append_at (some 62) rfl (by rfl) (.tmp 45) (.tmp 61) 55 rfl w2.heap.size 3 i0 _ 8 Tryd.underlying55 hi hz0 hz1 hz2 rfl _ k _ rfl hown4 (some ⟨wr.heap.size, 0, none⟩) 1 1 (intsV [n]) rfl rfl hsl4 (intsV_one _) (by unfold maxLen; omega) (by omega) w2 rfl hq4 ?_; intro v5 w5 hown5 hg5 hq5; rw [← intsV_append, ← HN.out] at hown5
      refine hK.out _ _ (hq5) (fun hHeld => ?_)
      clear hK K
      try (first | (rw [put_some]; dsimp only [List.set]) | rw [put_none])
      refine rtake 18 _ (some 3) _ rfl rfl (by kernel_rfl) (by kernel_rfl) (by kernel_rfl) (fun _ _ _ h => h) (by rfl) hHeld (by intro w hS; go_simp; try with_reducible rfl) ?_
      try (first | (rw [put_some]; dsimp only [List.set]) | rw [put_none])
      refine wpAnyH_done (by kernel_rfl) ?_ _
      refine NoPanic.normal ?_
      clear hHeld hown hown4 hsl4 hc1 hc2
      go_wp2
      go_roundw
      case rel => exact ⟨k + 1, by omega, by go_num, hown5, hq5⟩
      case measure => simp [intOf]; omega
    · have hk8 : (k : Int) = 8 := by omega
      rw [hk8]
      obtain rfl : k = 8 := by omega
      rw [← numsA_eq] at hown
      have hbw := hb2.trans (hbr.mono hb2.size)
      obtain ⟨A, c, rfl, -, hsl⟩ := Sl.of_own hown
      have hL8 : (numsA a).length = 8 := by rw [numsA_eq]; rfl
      have hL := Lib.hid (fun n (hn : n ∈ numsA a) => show n ≤ 65535 by
        rw [numsA_eq] at hn
        obtain ⟨i, _, rfl⟩ := List.mem_map.1 hn
        exact numA_le a i)
      obtain ⟨l, hl⟩ : ∃ l, l = numsA a := ⟨_, rfl⟩
      rw [← hl] at hsl hL8 hL HT
      have hzr := Lib.hid (fun p (hp : p ≤ 8) w' (hs : Sl w' A c (intsV l)) => by have := rzeros_any l p (by omega) (by omega) A c w' hs; rw [hL8] at this; exact this)
      clear hl hown hE hbr hlt hk hk8
      go_wp2
      go_loop [5, 65] (fun b i => ∃ k : Nat, k ≤ 8 ∧ i = .int .i64 k ∧ b = .int .i64 (bestK l k : Nat)) (fun _ i => 8 - (intOf i).toNat)
      case atStart => exact ⟨0, by omega, rfl, rfl⟩
      case round =>
        obtain ⟨k, hk, rfl, rfl⟩ := hrel
        by_cases hlt : k < 8
        · have hlt' : (k : Int) < 8 := by omega
          have hk1 := hzr.out k (by omega) _ hsl
          have hbk := bestK_le l k
          have hk2 := hzr.out (bestK l k) (by omega) _ hsl
          have HB := Lib.hid (bestK_succ l k)
          by_cases hg : zerosL (l.drop k) > zerosL (l.drop (bestK l k))
          · have HB2 := Lib.hid (HB.out.trans (if_pos hg))
            have hg' : ((zerosL (l.drop (bestK l k)) : Nat) : Int) < ((zerosL (l.drop k) : Nat) : Int) := by omega
            generalize zerosL (l.drop (bestK l k)) = z2 at *
            generalize zerosL (l.drop k) = z1 at *
            generalize bestK l k = b at *
            have HK1 := Lib.hid hk1
            have HK2 := Lib.hid hk2
            clear HB hk1 hk2 hg
            have tok1 : True := trivial
            go_wp2_with (first
              | (have _t := tok1; go_at_call 44; refine (HK1.out).mono ?_; rintro e w6 ⟨rfl, rfl⟩; clear tok1)
              | (go_at_call 44; refine (HK2.out).mono ?_; rintro e w6 ⟨rfl, rfl⟩))
            go_round
            case rel => exact ⟨k + 1, by omega, by go_num, by rw [HB2.out]⟩
            case measure => simp [intOf]; omega
          · have HB2 := Lib.hid (HB.out.trans (if_neg hg))
            have hg' : ((zerosL (l.drop k) : Nat) : Int) ≤ ((zerosL (l.drop (bestK l k)) : Nat) : Int) := by omega
            generalize zerosL (l.drop (bestK l k)) = z2 at *
            generalize zerosL (l.drop k) = z1 at *
            generalize bestK l k = b at *
            have HK1 := Lib.hid hk1
            have HK2 := Lib.hid hk2
            clear HB hk1 hk2 hg
            have tok1 : True := trivial
            go_wp2_with (first
              | (have _t := tok1; go_at_call 44; refine (HK1.out).mono ?_; rintro e w6 ⟨rfl, rfl⟩; clear tok1)
              | (go_at_call 44; refine (HK2.out).mono ?_; rintro e w6 ⟨rfl, rfl⟩))
            go_round
            case rel => exact ⟨k + 1, by omega, by go_num, by rw [HB2.out]⟩
            case measure => simp [intOf]; omega
        · obtain rfl : k = 8 := by omega
          have hbk := bestK_le l 8
          have hzb := zerosL_le (l.drop (bestK l 8))
          rw [List.length_drop, hL8] at hzb
          have hk2 := Lib.hid (hzr.out (bestK l 8) hbk _ hsl)
          have hjw := Lib.hid (fun w' (hb : Below wr.heap.size wr w') => by have := rjoin_any l hL.out (by omega) A c w' (hsl.later (Nat.le_refl _) hb); rw [hL8] at this; exact this)
          have hT2 := Lib.hid (show textA a = if zerosL (l.drop (bestK l 8)) < 2 then joinN l else joinN (l.take (bestK l 8)) ++ [58, 58] ++ joinN (l.drop (bestK l 8 + zerosL (l.drop (bestK l 8)))) by
            have hbe : bestL l = bestK l 8 := by show bestK l l.length = _; rw [hL8]
            rw [HT.out]
            show (if zerosL (l.drop (bestL l)) < 2 then joinN l else joinN (l.take (bestL l)) ++ 58 :: 58 :: joinN (l.drop (bestL l + zerosL (l.drop (bestL l))))) = _
            rw [hbe]
            simp)
          by_cases hz : zerosL (l.drop (bestK l 8)) < 2
          · have HT3 := Lib.hid (hT2.out.trans (if_pos hz))
            have hz' : ((zerosL (l.drop (bestK l 8)) : Nat) : Int) < 2 := by omega
            generalize zerosL (l.drop (bestK l 8)) = n at *
            generalize bestK l 8 = b at *
            clear hz hT2 hlt HT
            go_wp2_with (first
              | (go_at_call 44; refine (hk2.out).mono ?_; rintro e w6 ⟨rfl, rfl⟩)
              | (go_at_call 45; refine (hjw.out _ (Below.refl _ _)).mono ?_; rintro e w7 ⟨rfl, hb7⟩))
            go_ret
            exact ⟨by rw [HT3.out]; rfl, hbw.trans (hb7.mono hbw.size)⟩
          · have HT3 := Lib.hid (hT2.out.trans (if_neg hz))
            have hz' : (2 : Int) ≤ ((zerosL (l.drop (bestK l 8)) : Nat) : Int) := by omega
            generalize zerosL (l.drop (bestK l 8)) = n at *
            generalize bestK l 8 = b at *
            clear hz hT2 hlt HT
            obtain ⟨m, hm⟩ : ∃ m, m = b + n := ⟨_, rfl⟩
            rw [← hm] at HT3
            have hw9 : IntKind.i64.wrap ((b : Int) + (n : Int)) = (m : Int) := by rw [IntKind.wrap_i64]; omega
            obtain ⟨⟨A1, c1, hr1, hs1⟩, -⟩ := cut_ints A c l _ hsl b (by omega)
            obtain ⟨-, ⟨A2, c2, hr2, hs2⟩⟩ := cut_ints A c l _ hsl m (by omega)
            rw [hL8] at hr1 hr2
            have hj1 := Lib.hid (fun w' (hb : Below wr.heap.size wr w') => by have := rjoin_any (l.take b) (fun q hq => hL.out q (List.mem_of_mem_take hq)) (by rw [List.length_take]; omega) A1 c1 w' (hs1.later (Nat.le_refl _) hb); rw [List.length_take, hL8, Nat.min_eq_left (by omega)] at this; exact this)
            have hj2 := Lib.hid (fun w' (hb : Below wr.heap.size wr w') => by have := rjoin_any (l.drop m) (fun q hq => hL.out q (List.mem_of_mem_drop hq)) (by rw [List.length_drop]; omega) A2 c2 w' (hs2.later (Nat.le_refl _) hb); rw [List.length_drop, hL8] at this; exact this)
            have hlj1 := joinN_len (l.take b) (fun q hq => hL.out q (List.mem_of_mem_take hq))
            have hlj2 := joinN_len (l.drop m) (fun q hq => hL.out q (List.mem_of_mem_drop hq))
            rw [List.length_take, hL8] at hlj1
            rw [List.length_drop, hL8] at hlj2
            generalize joinN (l.take b) = J1 at *
            generalize joinN (l.drop m) = J2 at *
            have hs1 : (bstr J1).size = J1.length := size_bstr _
            have hs2 : (bstr J2).size = J2.length := size_bstr _
            go_wp2_with (go_at_call 44; refine (hk2.out).mono ?_; rintro e w6 ⟨rfl, rfl⟩)
            clear hsl hL hzr hk2 hjw hm
            refine wp_region_noPanic ?_
            refine wp_region_held_drew (S := fun w' => Below wr.heap.size wr w') (by kernel_rfl) ((Below.refl _ _).drew) (fun hHeld => ?_)
            have hB := hHeld
            refine rtake 0 _ (some 84) _ rfl rfl (by kernel_rfl) (by kernel_rfl) (by kernel_rfl) (fun _ _ _ h => h) (by rfl) hHeld (by intro w hS; go_simp; try with_reducible rfl) ?_
            try (first | (rw [put_some]; dsimp only [List.set]) | rw [put_none])
            refine rtake 1 _ (some 85) _ rfl rfl (by kernel_rfl) (by kernel_rfl) (by kernel_rfl) (fun _ _ _ h => h) (by rfl) hHeld (by intro w hS; go_simp; try with_reducible rfl) ?_
            try (first | (rw [put_some]; dsimp only [List.set]) | rw [put_none])
            refine rtake 2 _ (some 86) _ rfl rfl (by kernel_rfl) (by kernel_rfl) (by kernel_rfl) (fun _ _ _ h => h) (by rfl) hHeld (by intro w hS; go_simp; try with_reducible rfl) ?_
            try (first | (rw [put_some]; dsimp only [List.set]) | rw [put_none])
            refine rtake 5 _ (some 89) _ rfl rfl (by kernel_rfl) (by kernel_rfl) (by kernel_rfl) (fun _ _ _ h => h) (by rfl) hHeld (by intro w hS; go_simp; try with_reducible rfl) ?_
            try (first | (rw [put_some]; dsimp only [List.set]) | rw [put_none])
            refine rtake 6 _ (some 90) _ rfl rfl (by kernel_rfl) (by kernel_rfl) (by kernel_rfl) (fun _ _ _ h => h) (by rfl) hHeld (by intro w hS; go_simp; try with_reducible rfl) ?_
            try (first | (rw [put_some]; dsimp only [List.set]) | rw [put_none])
            refine rtake 7 _ (some 91) _ rfl rfl (by kernel_rfl) (by kernel_rfl) (by kernel_rfl) (fun _ _ _ h => h) (by rfl) hHeld (by intro w hS; go_simp; try with_reducible rfl) ?_
            try (first | (rw [put_some]; dsimp only [List.set]) | rw [put_none])
            refine rtake 8 _ (some 92) _ rfl rfl (by kernel_rfl) (by kernel_rfl) (by kernel_rfl) (fun _ _ _ h => h) (by rfl) hHeld (by intro w hS; go_simp; try with_reducible rfl) ?_
            try (first | (rw [put_some]; dsimp only [List.set]) | rw [put_none])
            refine rtake 9 _ (some 93) _ rfl rfl (by kernel_rfl) (by kernel_rfl) (by kernel_rfl) (fun _ _ _ h => h) (by rfl) hHeld (by intro w hS; go_simp; try with_reducible rfl) ?_
            try (first | (rw [put_some]; dsimp only [List.set]) | rw [put_none])
            refine wpAnyH_ready (rs := [3]) (by kernel_rfl) (by simp) (AllReadyH.cons (o := _) rfl (fun K hK => ?_) AllReadyH.nil)
            go_simp
            refine (hj1.out _ hB).mono ?_; rintro e wwr3 ⟨rfl, hqwr3⟩
            try go_wp2_with fail
            refine hK.out _ _ (hHeld.trans (hqwr3.mono hHeld.size)) (fun hHeld' => ?_)
            clear hK K
            try (first | (rw [put_some]; dsimp only [List.set]) | rw [put_none])
            have hB := below_step hB hqwr3
            have hB3 : Below wwr3.heap.size wwr3 wwr3 := Below.refl _ _
            refine wpAnyH_narrow (S' := fun w' => Below wwr3.heap.size wwr3 w') (fun _ h => (hHeld.trans (hqwr3.mono hHeld.size)).trans (h.mono (hHeld.trans (hqwr3.mono hHeld.size)).size)) _ _ _ _ ?_
            clear hHeld
            have hHeld : Below wwr3.heap.size wwr3 wwr3 := Below.refl _ _
            refine rtake 4 _ (some 88) _ rfl rfl (by kernel_rfl) (by kernel_rfl) (by kernel_rfl) (fun _ _ _ h => h) (by rfl) hHeld (by intro w hS; go_simp; rw [if_neg (by (try simp only [ByteArray.size_append, hs1, hs2]); (try simp only [show ByteArray.size { data := #[58, 58] } = 2 from rfl]); omega)]) ?_
            try (first | (rw [put_some]; dsimp only [List.set]) | rw [put_none])
            refine wpAnyH_ready (rs := [10]) (by kernel_rfl) (by simp) (AllReadyH.cons (o := _) rfl (fun K hK => ?_) AllReadyH.nil)
            go_simp
            refine (hj2.out _ hB).mono ?_; rintro e wwr10 ⟨rfl, hqwr10⟩
            try go_wp2_with fail
            refine hK.out _ _ (hHeld.trans (hqwr10.mono hHeld.size)) (fun hHeld' => ?_)
            clear hK K
            try (first | (rw [put_some]; dsimp only [List.set]) | rw [put_none])
            have hB := below_step hB hqwr10
            have hB3 := below_step hB3 hqwr10
            have hB10 : Below wwr10.heap.size wwr10 wwr10 := Below.refl _ _
            refine wpAnyH_narrow (S' := fun w' => Below wwr10.heap.size wwr10 w') (fun _ h => (hHeld.trans (hqwr10.mono hHeld.size)).trans (h.mono (hHeld.trans (hqwr10.mono hHeld.size)).size)) _ _ _ _ ?_
            clear hHeld
            have hHeld : Below wwr10.heap.size wwr10 wwr10 := Below.refl _ _
            refine rtake 11 _ (some 95) _ rfl rfl (by kernel_rfl) (by kernel_rfl) (by kernel_rfl) (fun _ _ _ h => h) (by rfl) hHeld (by intro w hS; go_simp; rw [if_neg (by (try simp only [ByteArray.size_append, hs1, hs2]); (try simp only [show ByteArray.size { data := #[58, 58] } = 2 from rfl]); omega)]) ?_
            try (first | (rw [put_some]; dsimp only [List.set]) | rw [put_none])
            refine rtake 12 _ (some 2) _ rfl rfl (by kernel_rfl) (by kernel_rfl) (by kernel_rfl) (fun _ _ _ h => h) (by rfl) hHeld (by intro w hS; go_simp; try with_reducible rfl) ?_
            try (first | (rw [put_some]; dsimp only [List.set]) | rw [put_none])
            refine wpAnyH_done (by kernel_rfl) ?_ _
            refine NoPanic.normal ?_
            have hBe := hbw.trans (hB.mono hbw.size)
            clear hHeld
            go_wp2
            go_ret
            exact ⟨by rw [HT3.out]; simp only [← bstr_cat12]; rfl, hBe⟩
theorem rtextA_any (a : Adr) (h : a.Ok) (w : World) :
    Calls Tryd.prog 31 #[.agg (adrV a).toArray] w fun e w' => e = .returned (.string (bstr (textA a))) ∧ Below w.heap.size w w' := by
  cases h6 : a.v6 with
  | true => exact rtext_six a h h6 w
  | false =>
    cases hc : checkA a with
    | true => exact rtext_four a h hc h6 w
    | false => exact rtext_bad a h hc w
end Go.Proofs.YtflebnbpoboljaaDoor
