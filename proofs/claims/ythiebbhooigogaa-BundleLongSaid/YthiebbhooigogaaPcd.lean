/- LAYER 10: package packet: Same, Clone. -/
import Derived.Test.YthiebbhooigogaaBt
import Derived.Test.YthiebbhooigogaaEq
import Derived.Test.YthiebbhooigogaaPca
import Derived.Test.YthiebbhooigogaaDc0
namespace Go.Proofs.Ythiebbhooigogaa
open Go Go.RowKit

theorem tag_eq (xs ys : List UInt8) (hx : xs.length = 32) (hy : ys.length = 32) (w : World) : (Op.equalIn 10000 25 (.agg (byts xs).toArray) (.agg (byts ys).toArray)).run Try.prog w = .ok (decide (xs = ys)) w := by
  obtain ⟨i0, hi, _⟩ := info_parts infoByte
  exact run_eq_bytes 25 32 i0 Try.underlying25 hi xs ys hx hy w
theorem take_eq {cs ds : List Cav} {k : Nat} {a : Cav} (h : cs.take k = ds.take k) (ha : cs[k]? = some a) (hb : ds[k]? = some a) : cs.take (k + 1) = ds.take (k + 1) := by
  rw [List.take_add_one, List.take_add_one, h, ha, hb]
set_option maxRecDepth 20000 in
set_option maxHeartbeats 2000000 in
theorem pequal_any (cs ds : List Cav) (A : Option Addr) (c : Nat) (B : Option Addr) (d : Nat) (w : World) (hs : Sl w A (c * 5) (cs.flatMap cavV)) (hp : Sl w B (d * 5) (ds.flatMap cavV)) (hcl : cs.length ≤ 9223372036854775807) :
    Calls Try.prog 46 #[.slice A cs.length c, .slice B ds.length d] w fun e w' => e = .returned (.bool (decide (cs = ds))) ∧ Below w.heap.size w w' := by
  by_cases hL : cs.length = ds.length
  · rw [← hL]
    have HL := Lib.hid hL
    clear hL
    obtain ⟨R, hR⟩ : ∃ R, R = decide (cs = ds) := ⟨_, rfl⟩
    rw [← hR]
    have HR := Lib.hid hR
    clear hR
    go_enter Try.func46, Try.ntmps46
    go_wp2_with fail
    go_loopw [13] (fun i wr => ∃ k : Nat, k ≤ cs.length ∧ i = .int .i64 k ∧ cs.take k = ds.take k ∧ Below w.heap.size w wr) (fun i _ => cs.length - (intOf i).toNat)
    case atStart => exact ⟨0, by omega, rfl, rfl, Below.refl _ _⟩
    case round =>
      obtain ⟨k, hk, rfl, hsame, hb⟩ := hrel
      have hL := HL.out
      by_cases hlt : k < cs.length
      · obtain ⟨a, ha⟩ : ∃ a, cs[k]? = some a := ⟨_, List.getElem?_eq_getElem hlt⟩
        obtain ⟨e, he⟩ : ∃ e, ds[k]? = some e := ⟨_, List.getElem?_eq_getElem (by omega)⟩
        clear hL
        obtain ⟨b, o, rfl, hb0, hr0⟩ := hs.rd.get (i := 0) (by rw [length_cavsV]; omega)
        clear hb0 hr0
        obtain ⟨b', o', rfl, hb0, hr0⟩ := hp.rd.get (i := 0) (by rw [length_cavsV, ← HL.out]; omega)
        clear hb0 hr0
        have hix := index_cav (some ⟨b, o, none⟩) b o cs.length c k rfl hlt
        have hiy := index_cav (some ⟨b', o', none⟩) b' o' cs.length d k rfl hlt
        have hrx := Lib.hid (show ∀ w', Below w.heap.size w w' → w'.rangeAt b (o + k * 5) (cavV a) from fun w' h => (hs.later (Nat.le_refl _) h).thing (k := 5) (fun _ _ => rfl) k a ha)
        have hry := Lib.hid (show ∀ w', Below w.heap.size w w' → w'.rangeAt b' (o' + k * 5) (cavV e) from fun w' h => (hp.later (Nat.le_refl _) h).thing (k := 5) (fun _ _ => rfl) k e he)
        have hzx := Lib.hid (show (Try.prog.info? 51).map (·.size) = some (cavV a).length from size_cav)
        have hzy := Lib.hid (show (Try.prog.info? 51).map (·.size) = some (cavV e).length from size_cav)
        have hE := eq_cav a e
        obtain ⟨VX, hVX⟩ : ∃ V, V = cavV a := ⟨_, rfl⟩
        obtain ⟨VY, hVY⟩ : ∃ V, V = cavV e := ⟨_, rfl⟩
        rw [← hVX] at hrx hzx hE
        rw [← hVY] at hry hzy hE
        clear hVX hVY
        by_cases hae : a = e
        · have HS := Lib.hid (take_eq hsame ha (by rw [hae]; exact he))
          rw [decide_eq_true hae] at hE
          clear hae ha he hsame hs hp
          go_wp2_with fail
          refine wp_region_noPanic ?_
          refine wp_region_held_drew (S := fun w' => Below w.heap.size w w') (by kernel_rfl) (hb.drew) (fun hHeld => ?_)
          have hB := hHeld
          refine rtake 0 _ (some 16) _ rfl rfl (by kernel_rfl) (by kernel_rfl) (by kernel_rfl) (fun _ _ _ h => h) (by rfl) hHeld (by intro w hS; go_simp; try with_reducible rfl) ?_
          try (first | (rw [put_some]; dsimp only [List.set]) | rw [put_none])
          refine rtake 1 _ (some 17) _ rfl rfl (by kernel_rfl) (by kernel_rfl) (by kernel_rfl) (fun _ _ _ h => h) (by rfl) hHeld (by intro w hS; go_simp; try with_reducible rfl) ?_
          try (first | (rw [put_some]; dsimp only [List.set]) | rw [put_none])
          refine rtake 2 _ (some 18) _ rfl rfl (by kernel_rfl) (by kernel_rfl) (by kernel_rfl) (fun _ _ _ h => h) (by rfl) hHeld (by intro w hS; go_simp; try with_reducible rfl) ?_
          try (first | (rw [put_some]; dsimp only [List.set]) | rw [put_none])
          refine rtake 3 _ (some 19) _ rfl rfl (by kernel_rfl) (by kernel_rfl) (by kernel_rfl) (fun _ _ _ h => h) (by rfl) hHeld (by intro w hS; exact run_load_op 51 (.tmp 18) rfl b (o + k * 5) rfl VX _ (hrx.out _ hS) Try.underlying51 rfl hzx.out) ?_
          try (first | (rw [put_some]; dsimp only [List.set]) | rw [put_none])
          refine rtake 4 _ (some 20) _ rfl rfl (by kernel_rfl) (by kernel_rfl) (by kernel_rfl) (fun _ _ _ h => h) (by rfl) hHeld (by intro w hS; go_simp; try with_reducible rfl) ?_
          try (first | (rw [put_some]; dsimp only [List.set]) | rw [put_none])
          refine rtake 5 _ (some 21) _ rfl rfl (by kernel_rfl) (by kernel_rfl) (by kernel_rfl) (fun _ _ _ h => h) (by rfl) hHeld (by intro w hS; go_simp; try with_reducible rfl) ?_
          try (first | (rw [put_some]; dsimp only [List.set]) | rw [put_none])
          refine rtake 6 _ (some 22) _ rfl rfl (by kernel_rfl) (by kernel_rfl) (by kernel_rfl) (fun _ _ _ h => h) (by rfl) hHeld (by intro w hS; go_simp; try with_reducible rfl) ?_
          try (first | (rw [put_some]; dsimp only [List.set]) | rw [put_none])
          refine rtake 7 _ (some 23) _ rfl rfl (by kernel_rfl) (by kernel_rfl) (by kernel_rfl) (fun _ _ _ h => h) (by rfl) hHeld (by intro w hS; exact run_load_op 51 (.tmp 22) rfl b' (o' + k * 5) rfl VY _ (hry.out _ hS) Try.underlying51 rfl hzy.out) ?_
          try (first | (rw [put_some]; dsimp only [List.set]) | rw [put_none])
          refine rtake 8 _ (some 24) _ rfl rfl (by kernel_rfl) (by kernel_rfl) (by kernel_rfl) (fun _ _ _ h => h) (by rfl) hHeld (by intro w hS; go_simp; try with_reducible rfl) ?_
          try (first | (rw [put_some]; dsimp only [List.set]) | rw [put_none])
          refine wpAnyH_done (by kernel_rfl) ?_ _
          refine NoPanic.normal ?_
          go_wp2_with fail
          go_roundw
          case rel => exact ⟨k + 1, by omega, by go_num, HS.out, hHeld⟩
          case measure => simp [intOf]; omega
        · have HF := Lib.hid (show R = false from HR.out.trans (decide_eq_false (fun h => hae (by rw [h] at ha; rw [ha] at he; exact Option.some.inj he))))
          rw [decide_eq_false hae] at hE
          clear hae ha he hsame hs hp
          go_wp2_with fail
          refine wp_region_noPanic ?_
          refine wp_region_held_drew (S := fun w' => Below w.heap.size w w') (by kernel_rfl) (hb.drew) (fun hHeld => ?_)
          have hB := hHeld
          refine rtake 0 _ (some 16) _ rfl rfl (by kernel_rfl) (by kernel_rfl) (by kernel_rfl) (fun _ _ _ h => h) (by rfl) hHeld (by intro w hS; go_simp; try with_reducible rfl) ?_
          try (first | (rw [put_some]; dsimp only [List.set]) | rw [put_none])
          refine rtake 1 _ (some 17) _ rfl rfl (by kernel_rfl) (by kernel_rfl) (by kernel_rfl) (fun _ _ _ h => h) (by rfl) hHeld (by intro w hS; go_simp; try with_reducible rfl) ?_
          try (first | (rw [put_some]; dsimp only [List.set]) | rw [put_none])
          refine rtake 2 _ (some 18) _ rfl rfl (by kernel_rfl) (by kernel_rfl) (by kernel_rfl) (fun _ _ _ h => h) (by rfl) hHeld (by intro w hS; go_simp; try with_reducible rfl) ?_
          try (first | (rw [put_some]; dsimp only [List.set]) | rw [put_none])
          refine rtake 3 _ (some 19) _ rfl rfl (by kernel_rfl) (by kernel_rfl) (by kernel_rfl) (fun _ _ _ h => h) (by rfl) hHeld (by intro w hS; exact run_load_op 51 (.tmp 18) rfl b (o + k * 5) rfl VX _ (hrx.out _ hS) Try.underlying51 rfl hzx.out) ?_
          try (first | (rw [put_some]; dsimp only [List.set]) | rw [put_none])
          refine rtake 4 _ (some 20) _ rfl rfl (by kernel_rfl) (by kernel_rfl) (by kernel_rfl) (fun _ _ _ h => h) (by rfl) hHeld (by intro w hS; go_simp; try with_reducible rfl) ?_
          try (first | (rw [put_some]; dsimp only [List.set]) | rw [put_none])
          refine rtake 5 _ (some 21) _ rfl rfl (by kernel_rfl) (by kernel_rfl) (by kernel_rfl) (fun _ _ _ h => h) (by rfl) hHeld (by intro w hS; go_simp; try with_reducible rfl) ?_
          try (first | (rw [put_some]; dsimp only [List.set]) | rw [put_none])
          refine rtake 6 _ (some 22) _ rfl rfl (by kernel_rfl) (by kernel_rfl) (by kernel_rfl) (fun _ _ _ h => h) (by rfl) hHeld (by intro w hS; go_simp; try with_reducible rfl) ?_
          try (first | (rw [put_some]; dsimp only [List.set]) | rw [put_none])
          refine rtake 7 _ (some 23) _ rfl rfl (by kernel_rfl) (by kernel_rfl) (by kernel_rfl) (fun _ _ _ h => h) (by rfl) hHeld (by intro w hS; exact run_load_op 51 (.tmp 22) rfl b' (o' + k * 5) rfl VY _ (hry.out _ hS) Try.underlying51 rfl hzy.out) ?_
          try (first | (rw [put_some]; dsimp only [List.set]) | rw [put_none])
          refine rtake 8 _ (some 24) _ rfl rfl (by kernel_rfl) (by kernel_rfl) (by kernel_rfl) (fun _ _ _ h => h) (by rfl) hHeld (by intro w hS; go_simp; try with_reducible rfl) ?_
          try (first | (rw [put_some]; dsimp only [List.set]) | rw [put_none])
          refine wpAnyH_done (by kernel_rfl) ?_ _
          refine NoPanic.normal ?_
          go_wp2
          go_ret
          exact ⟨by rw [HF.out]; rfl, hHeld⟩
      · obtain rfl : k = cs.length := by omega
        rw [List.take_length, hL, List.take_length] at hsame
        have HF := Lib.hid (show R = true from HR.out.trans (decide_eq_true hsame))
        clear hlt hk hs hp hsame hL
        generalize cs.length = n at *
        go_wp2
        go_ret
        exact ⟨by rw [HF.out]; rfl, hb⟩
  · have HE := Lib.hid (show decide (cs = ds) = false from decide_eq_false (fun h => hL (by rw [h])))
    rw [HE.out]
    have hL' : ((cs.length : Int) == (ds.length : Int)) = false := by rw [beq_eq_false_iff_ne]; omega
    clear hL hs hp
    go_enter Try.func46, Try.ntmps46
    go_wp2
    go_ret
    exact ⟨rfl, Below.refl _ _⟩
set_option maxRecDepth 20000 in
set_option maxHeartbeats 4000000 in
theorem psame_any (t u : Tok) (ht : t.Ok) (hu : u.Ok) (A : Option Addr) (c : Nat) (B : Option Addr) (d : Nat) (w : World) (hs : Sl w A (c * 5) (t.cavs.flatMap cavV)) (hp : Sl w B (d * 5) (u.cavs.flatMap cavV)) (hcl : t.cavs.length ≤ 9223372036854775807) :
    Calls Try.prog 30 #[.agg (tokV t A c).toArray, .agg (tokV u B d).toArray] w fun e w' => e = .returned (.bool (decide (t = u))) ∧ Below w.heap.size w w' := by
  have hgt := tokV_get t A c
  have hgu := tokV_get u B d
  obtain ⟨V, hV⟩ : ∃ V, V = tokV t A c := ⟨_, rfl⟩
  obtain ⟨U, hU⟩ : ∃ U, U = tokV u B d := ⟨_, rfl⟩
  obtain ⟨r0, r1, hb1, hz⟩ := two_rows (w := w) (A := V) (B := U) (tA := 27) (tB := 27) rfl
  rw [← hV, ← hU]
  have htt0 := tok_tag ht (by rw [← hV]; exact r0)
  have htu0 := tok_tag hu (by rw [← hU]; exact r1)
  rw [← hV] at hgt
  rw [← hU] at hgu
  clear hV hU hz
  have hzt := Lib.hid (show (Try.prog.info? 25).map (·.size) = some (byts t.tag).length by rw [size_tag, length_byts, ht.tag])
  have hzu := Lib.hid (show (Try.prog.info? 25).map (·.size) = some (byts u.tag).length by rw [size_tag, length_byts, hu.tag])
  have hE := tag_eq t.tag u.tag ht.tag hu.tag
  obtain ⟨R, hR⟩ : ∃ R, R = decide (t = u) := ⟨_, rfl⟩
  rw [← hR]
  have HR := Lib.hid hR
  clear hR
  have hne : ∀ p : Prop, (t = u → p) → ¬ p → R = false := fun p h1 h2 => HR.out.trans (decide_eq_false fun e => h2 (h1 e))
  obtain ⟨w1, hw1⟩ : ∃ w1, w1 = (w.alloc (.cells V.toArray 27)).alloc (.cells U.toArray 27) := ⟨_, rfl⟩
  rw [← hw1] at r0 r1 hb1 htt0 htu0
  have c0 : w1.cell? ⟨w.heap.size, 0, none⟩ = some (.int .u64 t.key) := by rw [r0.cell]; exact hgt.1
  have c1 : w1.cell? ⟨w.heap.size, 1, none⟩ = some (.string (bstr t.id)) := by rw [r0.cell]; exact hgt.2.1
  have c2 : w1.cell? ⟨w.heap.size, 2, none⟩ = some (.slice A t.cavs.length c) := by rw [r0.cell]; exact hgt.2.2.1
  have hc3 := Lib.hid (show ∀ w', Below w1.heap.size w1 w' → w'.cell? ⟨w.heap.size, 3, none⟩ = some (.bool t.bound) from fun w' h => by rw [(r0.later h r0.lt).cell]; exact hgt.2.2.2)
  have d0 : w1.cell? ⟨w.heap.size + 1, 0, none⟩ = some (.int .u64 u.key) := by rw [r1.cell]; exact hgu.1
  have d1 : w1.cell? ⟨w.heap.size + 1, 1, none⟩ = some (.string (bstr u.id)) := by rw [r1.cell]; exact hgu.2.1
  have d2 : w1.cell? ⟨w.heap.size + 1, 2, none⟩ = some (.slice B u.cavs.length d) := by rw [r1.cell]; exact hgu.2.2.1
  have hd3 := Lib.hid (show ∀ w', Below w1.heap.size w1 w' → w'.cell? ⟨w.heap.size + 1, 3, none⟩ = some (.bool u.bound) from fun w' h => by rw [(r1.later h r1.lt).cell]; exact hgu.2.2.2)
  have htt := Lib.hid (show ∀ w', Below w1.heap.size w1 w' → w'.rangeAt w.heap.size 4 (byts t.tag) from fun w' h => (htt0.later (Nat.le_refl _) h).range)
  have htu := Lib.hid (show ∀ w', Below w1.heap.size w1 w' → w'.rangeAt (w.heap.size + 1) 4 (byts u.tag) from fun w' h => (htu0.later (Nat.le_refl _) h).range)
  have hs1 := hs.later (Nat.le_refl _) hb1
  have hp1 := hp.later (Nat.le_refl _) hb1
  have hEqc := Lib.hid (show ∀ w1, Sl w1 A (c * 5) (t.cavs.flatMap cavV) → Sl w1 B (d * 5) (u.cavs.flatMap cavV) → Calls Try.prog 46 #[.slice A t.cavs.length c, .slice B u.cavs.length d] w1 fun e w' => e = .returned (.bool (decide (t.cavs = u.cavs))) ∧ Below w1.heap.size w1 w' from fun w1 h1 h2 => pequal_any t.cavs u.cavs A c B d w1 h1 h2 hcl)
  clear hgt hgu hs hp r0 r1 htt0 htu0 hcl
  subst hw1
  go_enter Try.func30, Try.ntmps30
  by_cases hK : t.key = u.key
  · have HK := Lib.hid hK
    rw [← hK] at d0
    clear hK
    by_cases hI : t.id = u.id
    · have HI := Lib.hid hI
      rw [← hI] at d1
      clear hI
      by_cases hC : t.cavs = u.cavs
      · rw [decide_eq_true hC] at hEqc
        have HC := Lib.hid hC
        clear hC
        by_cases hB : t.bound = u.bound
        · have HB := Lib.hid hB
          rw [← hB] at hd3
          clear hB
          by_cases hT : t.tag = u.tag
          · rw [decide_eq_true hT] at hE
            have HE := Lib.hid (show R = true from HR.out.trans (decide_eq_true ((Tok.ext_iff' t u).2 ⟨HK.out, HI.out, HC.out, HB.out, hT⟩)))
            clear hT hne
            go_wp2_with (first
              | (refine wpList_step fun K hK => ?_; refine step_load_mid (some 33) rfl (by rfl) 25 (.tmp 32) rfl w.heap.size 4 rfl (byts t.tag) _ tt' Try.underlying25 rfl hzt.out ?_; refine hK _ _ ?_)
              | (refine wpList_step fun K hK => ?_; refine step_load_mid (some 35) rfl (by rfl) 25 (.tmp 34) rfl (w.heap.size + 1) 4 rfl (byts u.tag) _ tu' Try.underlying25 rfl hzu.out ?_; refine hK _ _ ?_)
              | (go_at_call 46; refine (hEqc.out _ hs1 hp1).mono ?_; rintro e w6 ⟨rfl, hb6⟩; have c3' := hc3.out _ hb6; have d3' := hd3.out _ hb6; have tt' := htt.out _ hb6; have tu' := htu.out _ hb6))
            go_ret
            exact ⟨by rw [HE.out]; rfl, hb1.trans (hb6.mono hb1.size)⟩
          · have HE := Lib.hid (hne _ (fun e => by rw [e]) hT)
            rw [decide_eq_false hT] at hE
            clear hT hne
            go_wp2_with (first
              | (refine wpList_step fun K hK => ?_; refine step_load_mid (some 33) rfl (by rfl) 25 (.tmp 32) rfl w.heap.size 4 rfl (byts t.tag) _ tt' Try.underlying25 rfl hzt.out ?_; refine hK _ _ ?_)
              | (refine wpList_step fun K hK => ?_; refine step_load_mid (some 35) rfl (by rfl) 25 (.tmp 34) rfl (w.heap.size + 1) 4 rfl (byts u.tag) _ tu' Try.underlying25 rfl hzu.out ?_; refine hK _ _ ?_)
              | (go_at_call 46; refine (hEqc.out _ hs1 hp1).mono ?_; rintro e w6 ⟨rfl, hb6⟩; have c3' := hc3.out _ hb6; have d3' := hd3.out _ hb6; have tt' := htt.out _ hb6; have tu' := htu.out _ hb6))
            go_ret
            exact ⟨by rw [HE.out]; rfl, hb1.trans (hb6.mono hb1.size)⟩
        · have HE := Lib.hid (hne _ (fun e => by rw [e]) hB)
          have hL' : (t.bound == u.bound) = false := by rw [beq_eq_false_iff_ne]; exact hB
          clear hB hne
          go_wp2_with (first
            | (refine wpList_step fun K hK => ?_; refine step_load_mid (some 33) rfl (by rfl) 25 (.tmp 32) rfl w.heap.size 4 rfl (byts t.tag) _ tt' Try.underlying25 rfl hzt.out ?_; refine hK _ _ ?_)
            | (refine wpList_step fun K hK => ?_; refine step_load_mid (some 35) rfl (by rfl) 25 (.tmp 34) rfl (w.heap.size + 1) 4 rfl (byts u.tag) _ tu' Try.underlying25 rfl hzu.out ?_; refine hK _ _ ?_)
            | (go_at_call 46; refine (hEqc.out _ hs1 hp1).mono ?_; rintro e w6 ⟨rfl, hb6⟩; have c3' := hc3.out _ hb6; have d3' := hd3.out _ hb6; have tt' := htt.out _ hb6; have tu' := htu.out _ hb6))
          go_ret
          exact ⟨by rw [HE.out]; rfl, hb1.trans (hb6.mono hb1.size)⟩
      · have HE := Lib.hid (hne _ (fun e => by rw [e]) hC)
        rw [decide_eq_false hC] at hEqc
        clear hC hne
        go_wp2_with (first
          | (refine wpList_step fun K hK => ?_; refine step_load_mid (some 33) rfl (by rfl) 25 (.tmp 32) rfl w.heap.size 4 rfl (byts t.tag) _ tt' Try.underlying25 rfl hzt.out ?_; refine hK _ _ ?_)
          | (refine wpList_step fun K hK => ?_; refine step_load_mid (some 35) rfl (by rfl) 25 (.tmp 34) rfl (w.heap.size + 1) 4 rfl (byts u.tag) _ tu' Try.underlying25 rfl hzu.out ?_; refine hK _ _ ?_)
          | (go_at_call 46; refine (hEqc.out _ hs1 hp1).mono ?_; rintro e w6 ⟨rfl, hb6⟩; have c3' := hc3.out _ hb6; have d3' := hd3.out _ hb6; have tt' := htt.out _ hb6; have tu' := htu.out _ hb6))
        go_ret
        exact ⟨by rw [HE.out]; rfl, hb1.trans (hb6.mono hb1.size)⟩
    · have HE := Lib.hid (hne _ (fun e => by rw [e]) hI)
      have hL' : ¬ (bstr t.id).toList = (bstr u.id).toList := by rw [bstr_toList, bstr_toList]; exact hI
      clear hI hne hs1 hp1
      go_wp2
      go_ret
      exact ⟨by rw [HE.out]; rfl, hb1⟩
  · have HE := Lib.hid (hne _ (fun e => by rw [e]) hK)
    have hL' : ¬ (t.key : Int) = (u.key : Int) := by omega
    clear hK hne hs1 hp1
    go_wp2
    go_ret
    exact ⟨by rw [HE.out]; rfl, hb1⟩
theorem nil_none (w : World) : (binOp BinOp.eql 23 (.slice none 0 0) (.slice none 0 0)).run Try.prog w = .ok (.bool true) w := by kernel_rfl
theorem nil_some (ad : Addr) (n c : Nat) (w : World) : (binOp BinOp.eql 23 (.slice (some ad) n c) (.slice none 0 0)).run Try.prog w = .ok (.bool false) w := by kernel_rfl
set_option maxRecDepth 20000 in
set_option maxHeartbeats 2000000 in
theorem psclone_any (cs : List Cav) (hm : cs.length ≤ 1000000) (A : Option Addr) (c : Nat) (w : World) (hs : Sl w A (c * 5) (cs.flatMap cavV)) :
    Calls Try.prog 47 #[.slice A cs.length c] w fun e w' => ∃ B d, e = .returned (.slice B cs.length d) ∧ Sl w' B (d * 5) (cs.flatMap cavV) ∧ (∀ a, B = some a → w.heap.size ≤ a.block) ∧ Below w.heap.size w w' := by
  cases A with
  | none =>
    have h0 : cs.length = 0 := by
      have h1 := hs.bare rfl
      have h2 := hs.room
      rw [length_cavsV] at h2
      omega
    have hc : c = 0 := by
      have h1 := hs.bare rfl
      omega
    obtain rfl : cs = [] := List.eq_nil_of_length_eq_zero h0
    subst hc
    clear h0
    have hnil := nil_none
    go_enter Try.func47, Try.ntmps47
    go_wp2
    go_ret
    exact ⟨none, 0, rfl, hs, (fun a h => by cases h), Below.refl _ _⟩
  | some ad =>
    obtain ⟨i0, hi, hz0, hz1, hz2⟩ := info_cav
    have HF := Lib.hid (length_cavsV cs)
    have hone := Lib.hid (cavV_one cs)
    have n1 : 0 + cs.length ≤ maxLen := by unfold maxLen; omega
    have n2 : (0 + cs.length) * 64 ≤ 140737488355328 := by omega
    have hb1 := (Below.refl w.heap.size w).alloc (Nat.le_refl _) (.cells #[] 51)
    have hs1 := hs.later (Nat.le_refl _) hb1
    have hown1 : (w.alloc (.cells #[] 51)).ownsRow w.heap.size 51 5 (.slice (some ⟨w.heap.size, 0, none⟩) 0 0) 0 [] := World.ownsRow_lit w _ 0 (Nat.le_refl _) (by decide) rfl
    generalize hw1 : w.alloc (.cells #[] 51) = w1 at hb1 hs1 hown1
    have HW := Lib.hid hw1
    clear hw1 hs
    generalize cs.length = n at *
    have hnil := nil_some ad n c
    go_enter Try.func47, Try.ntmps47
    go_wp2_with (at_builtin; rw [HW.out]; refine wpList_append_k rfl (.tmp 5) (.tmp 6) 23 rfl w.heap.size 51 i0 _ 5 64 Try.underlying23 hi hz0 hz1 (by omega) hz2 rfl _ 0 [] rfl hown1 (some ad) n c (cs.flatMap cavV) rfl HF.out hs1 hone.out n1 n2 hb1.size ?_; intro v7 w7 hown7 hg7; have hb7 := hb1.grown hg7 hb1.size (fun k hk => (hown1.lt k hk).1))
    rw [List.nil_append, Nat.zero_add] at hown7
    obtain ⟨A7, c7, rfl, _, hsl7⟩ := Sl.of_ownk hown7
    have hfr7 := ownk_fresh hown7
    clear hown7
    go_ret
    exact ⟨A7, c7, rfl, hsl7, hfr7, hb7⟩
set_option maxRecDepth 20000 in
set_option maxHeartbeats 2000000 in
theorem pclone_fresh (t : Tok) (ht : t.Ok) (hm : t.cavs.length ≤ 1000000) (A : Option Addr) (c : Nat) (w : World) (hs : Sl w A (c * 5) (t.cavs.flatMap cavV)) :
    Calls Try.prog 32 #[.agg (tokV t A c).toArray] w fun e w' => ∃ B d, e = .returned (.agg (tokV t B d).toArray) ∧ Sl w' B (d * 5) (t.cavs.flatMap cavV) ∧ (∀ a, B = some a → w.heap.size ≤ a.block) ∧ Below w.heap.size w w' := by
  have hck := Lib.hid (fun w1 h => psclone_any t.cavs hm A c w1 h)
  have hg := tokV_get t A c
  have hVs := Lib.hid (fun B d => show (tokV t A c).set 2 (.slice B t.cavs.length d) = tokV t B d from rfl)
  have hlen := Lib.hid (fun B d => length_tokV ht B d)
  have hone := Lib.hid (fun B d => all_one (tokV_one t B d))
  obtain ⟨V, hV⟩ : ∃ V, V = tokV t A c := ⟨_, rfl⟩
  rw [← hV] at hg hVs ⊢
  clear hV
  have c2 : ((w.alloc (.cells V.toArray 27)).alloc (.cells [Value.int .u64 0, .string { data := #[] }, .slice none 0 0, .bool false, .int .u8 0, .int .u8 0, .int .u8 0, .int .u8 0, .int .u8 0, .int .u8 0, .int .u8 0, .int .u8 0, .int .u8 0, .int .u8 0, .int .u8 0, .int .u8 0, .int .u8 0, .int .u8 0, .int .u8 0, .int .u8 0, .int .u8 0, .int .u8 0, .int .u8 0, .int .u8 0, .int .u8 0, .int .u8 0, .int .u8 0, .int .u8 0, .int .u8 0, .int .u8 0, .int .u8 0, .int .u8 0, .int .u8 0, .int .u8 0, .int .u8 0, .int .u8 0].toArray 27)).cell? ⟨w.heap.size, 2, none⟩ = some (.slice A t.cavs.length c) := by rw [(two_rows (w := w) (A := V) (B := [Value.int .u64 0, .string { data := #[] }, .slice none 0 0, .bool false, .int .u8 0, .int .u8 0, .int .u8 0, .int .u8 0, .int .u8 0, .int .u8 0, .int .u8 0, .int .u8 0, .int .u8 0, .int .u8 0, .int .u8 0, .int .u8 0, .int .u8 0, .int .u8 0, .int .u8 0, .int .u8 0, .int .u8 0, .int .u8 0, .int .u8 0, .int .u8 0, .int .u8 0, .int .u8 0, .int .u8 0, .int .u8 0, .int .u8 0, .int .u8 0, .int .u8 0, .int .u8 0, .int .u8 0, .int .u8 0, .int .u8 0, .int .u8 0]) (tA := 27) (tB := 27) rfl).1.cell]; exact hg.2.2.1
  go_enter Try.func32, Try.ntmps32
  go_wp2_with fail
  generalize hw2 : World.alloc (World.alloc w _) _ = w2 at c2 ⊢
  obtain ⟨r0, r1, hb1, hsz⟩ := two_rows (A := V) (B := [Value.int .u64 0, .string { data := #[] }, .slice none 0 0, .bool false, .int .u8 0, .int .u8 0, .int .u8 0, .int .u8 0, .int .u8 0, .int .u8 0, .int .u8 0, .int .u8 0, .int .u8 0, .int .u8 0, .int .u8 0, .int .u8 0, .int .u8 0, .int .u8 0, .int .u8 0, .int .u8 0, .int .u8 0, .int .u8 0, .int .u8 0, .int .u8 0, .int .u8 0, .int .u8 0, .int .u8 0, .int .u8 0, .int .u8 0, .int .u8 0, .int .u8 0, .int .u8 0, .int .u8 0, .int .u8 0, .int .u8 0, .int .u8 0]) (tA := 27) (tB := 27) hw2
  have hs1 := hs.later (Nat.le_refl _) hb1
  have hlt0 := r0.lt
  have hlt1 := r1.lt
  obtain ⟨Z, hZ⟩ : ∃ Z : List Value, Z = [Value.int .u64 0, .string { data := #[] }, .slice none 0 0, .bool false, .int .u8 0, .int .u8 0, .int .u8 0, .int .u8 0, .int .u8 0, .int .u8 0, .int .u8 0, .int .u8 0, .int .u8 0, .int .u8 0, .int .u8 0, .int .u8 0, .int .u8 0, .int .u8 0, .int .u8 0, .int .u8 0, .int .u8 0, .int .u8 0, .int .u8 0, .int .u8 0, .int .u8 0, .int .u8 0, .int .u8 0, .int .u8 0, .int .u8 0, .int .u8 0, .int .u8 0, .int .u8 0, .int .u8 0, .int .u8 0, .int .u8 0, .int .u8 0] := ⟨_, rfl⟩
  have hzl : Z.toArray.size = 36 := by rw [hZ]; rfl
  rw [← hZ] at r1
  clear hsz hw2 hs hZ c2
  have hsz36 := Lib.hid (show (Try.prog.info? 27).map (·.size) = some 36 from size_tok)
  go_wp2_with (first
    | (go_at_call 47; refine (hck.out _ hs1).mono ?_; rintro e w3 ⟨B, d, rfl, hsl3, hfr3, hb3⟩; have hfz3 := (r0.later hb3 hlt0).free 2; have hcl3 : w3.cell? ⟨w.heap.size, 2, none⟩ = some (.slice A t.cavs.length c) := (by rw [(r0.later hb3 hlt0).cell]; exact hg.2.2.1); obtain ⟨V4, hV4⟩ : ∃ V4, V4 = tokV t B d := ⟨_, rfl⟩; have hl4 : V4.toArray.size = 36 := (by rw [hV4, List.size_toArray]; exact hlen.out B d); have hone4 := Lib.hid (show V4.toArray.all (·.oneCell') = true by rw [hV4]; exact hone.out B d); have R4 := Lib.hid (show (w3.setCell ⟨w.heap.size, 2, none⟩ (.slice B t.cavs.length d)).heap[w.heap.size]? = some (.cells V4.toArray 27 (0, 0)) by rw [hV4, ← hVs.out]; exact (r0.later hb3 hlt0).set 2 _); have RZ := Lib.hid (show (w3.setCell ⟨w.heap.size, 2, none⟩ (.slice B t.cavs.length d)).heap[w.heap.size + 1]? = some (.cells Z.toArray 27 (0, 0)) from (r1.later hb3 hlt1).far _ _ (by show w.heap.size + 1 ≠ w.heap.size; omega)); have hzf4 := Lib.hid (show (Try.prog.info? 27).map (·.size) = some V4.toArray.size by rw [hl4]; exact hsz36.out); have hzz := Lib.hid (show Z.toArray.size = V4.toArray.size by rw [hl4, hzl]); have HV4 := Lib.hid hV4; clear hV4 hl4)
    | (with_reducible refine wpList_load_row rfl 27 (.tmp 1) rfl w.heap.size rfl 27 V4.toArray (0, 0) _ R4.out Try.underlying27 rfl hzf4.out ?_)
    | (with_reducible refine wpList_store_row rfl 27 (.tmp 2) (.tmp 7) rfl (w.heap.size + 1) V4.toArray rfl rfl 27 Z.toArray RZ.out hzf4.out hzz.out hone4.out ?_; refine Hid.out ?_))
  refine Lib.hid ?_
  generalize hw9 : World.setRow _ _ _ = w9
  obtain ⟨r9, hg9⟩ := row_set (xs := V4) (show Row _ (w.heap.size + 1) 27 Z from RZ.out) hw9
  have R9 := Lib.hid (show w9.heap[w.heap.size + 1]? = some (.cells V4.toArray 27 (0, 0)) from r9)
  have hb4 := (hb1.trans (hb3.mono hb1.size)).grown (grown_setCell w3 w.heap.size 2 (.slice B t.cavs.length d)) (hb1.trans (hb3.mono hb1.size)).size (fun k h => by cases h; exact Nat.le_refl _)
  have hb9 := hb4.grown hg9 hb4.size (fun k h => by cases h; exact Nat.le_succ _)
  have hsl4 := hsl3.apart (grown_setCell w3 w.heap.size 2 (.slice B t.cavs.length d)) (fun _ a ha => by have := hfr3 a ha; omega)
  have hsl9 := hsl4.apart hg9 (fun _ a ha => by have := hfr3 a ha; omega)
  clear hw9 r9 hg9 hzz hzl hfz3 hcl3
  go_wp2_with (with_reducible refine bodyPost_ret (results_cell_row rfl _ _ (w.heap.size + 1) 27 V4.toArray (0, 0) _ rfl R9.out Try.underlying27 rfl hzf4.out) rfl ?_)
  exact ⟨B, d, by rw [HV4.out], hsl9, (fun a ha => Nat.le_trans hb1.size (hfr3 a ha)), hb9⟩
theorem pclone_any (t : Tok) (ht : t.Ok) (hm : t.cavs.length ≤ 1000000) (A : Option Addr) (c : Nat) (w : World) (hs : Sl w A (c * 5) (t.cavs.flatMap cavV)) :
    Calls Try.prog 32 #[.agg (tokV t A c).toArray] w fun e w' => ∃ B d, e = .returned (.agg (tokV t B d).toArray) ∧ Sl w' B (d * 5) (t.cavs.flatMap cavV) ∧ Below w.heap.size w w' :=
  (pclone_fresh t ht hm A c w hs).mono fun _ _ ⟨B, d, h1, h2, _, h3⟩ => ⟨B, d, h1, h2, h3⟩
end Go.Proofs.Ythiebbhooigogaa
