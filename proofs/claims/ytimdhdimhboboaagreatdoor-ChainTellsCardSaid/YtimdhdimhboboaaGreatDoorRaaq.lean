/- Texts of this claim, one behind the other. -/
import Derived.Test.YtimdhdimhboboaaGreatDoorRaah
import Derived.Test.YtimdhdimhboboaaGreatDoorRaak
/- LAYER 10: the document's Same. -/
namespace Go.Proofs.YtimdhdimhboboaaGreatDoor
set_option maxRecDepth 100000
open Go Go.RowKit

theorem tag_neq (xs ys : List UInt8) (hx : xs.length = 32) (hy : ys.length = 32) (w : World) : (Op.equalIn 10000 23 (.agg (byts xs).toArray) (.agg (byts ys).toArray)).run Tryz.prog w = .ok (decide (xs = ys)) w := by
  obtain ⟨i0, hi, _⟩ := info_parts infoByte
  exact run_eq_bytes 23 32 i0 Tryz.underlying23 hi xs ys hx hy w
theorem run_eq_cav (a b : Cav) (w : World) : (Op.equalIn 10000 29 (.agg (cavV a).toArray) (.agg (cavV b).toArray)).run Tryz.prog w = .ok (decide (a = b)) w := by
  obtain ⟨a1, a2, a3, a4, a5⟩ := a
  obtain ⟨b1, b2, b3, b4, b5⟩ := b
  show (Op.equalIn 10000 29 (.agg #[.bool a1, .string (bstr a2), .int .u64 a3, .string (bstr a4), .string (bstr a5)]) (.agg #[.bool b1, .string (bstr b2), .int .u64 b3, .string (bstr b4), .string (bstr b5)])).run Tryz.prog w = _
  go_simp
  simp only [bstr_toList]
  by_cases h1 : a1 = b1 <;> by_cases h2 : a2 = b2 <;> by_cases h3 : a3 = b3 <;> by_cases h4 : a4 = b4 <;> by_cases h5 : a5 = b5 <;> simp [h1, h2, h3, h4, h5]
  all_goals omega
theorem take_same {cs ds : List Cav} {k : Nat} {a : Cav} (h : cs.take k = ds.take k) (ha : cs[k]? = some a) (hb : ds[k]? = some a) : cs.take (k + 1) = ds.take (k + 1) := by
  rw [List.take_add_one, List.take_add_one, h, ha, hb]
set_option maxRecDepth 100000 in
set_option maxHeartbeats 4000000 in
theorem rsame_any (t u : Tok) (ht : t.Ok) (hu : u.Ok) (A : Option Addr) (c : Nat) (B : Option Addr) (d : Nat) (w : World) (hs : Sl w A (c * 5) (t.cavs.flatMap cavV)) (hp : Sl w B (d * 5) (u.cavs.flatMap cavV)) (hcl : t.cavs.length ≤ 9223372036854775807) :
    Calls Tryz.prog 18 #[.agg (tokV t A c).toArray, .agg (tokV u B d).toArray] w fun e w' => e = .returned (.bool (decide (t = u))) ∧ Below w.heap.size w w' := by
  have hgt := tokV_get t A c
  have hgu := tokV_get u B d
  obtain ⟨V, hV⟩ : ∃ V, V = tokV t A c := ⟨_, rfl⟩
  obtain ⟨U, hU⟩ : ∃ U, U = tokV u B d := ⟨_, rfl⟩
  obtain ⟨r0, r1, hb1, hz⟩ := two_rows (w := w) (A := V) (B := U) (tA := 27) (tB := 27) rfl
  rw [← hV, ← hU]
  have tt := (tok_tag ht (by rw [← hV]; exact r0)).range
  have tu := (tok_tag hu (by rw [← hU]; exact r1)).range
  rw [← hV] at hgt
  rw [← hU] at hgu
  clear hV hU hz
  have hzt := Lib.hid (show (Tryz.prog.info? 23).map (·.size) = some (byts t.tag).length by rw [size_tag, length_byts, ht.tag])
  have hzu := Lib.hid (show (Tryz.prog.info? 23).map (·.size) = some (byts u.tag).length by rw [size_tag, length_byts, hu.tag])
  have hE := tag_neq t.tag u.tag ht.tag hu.tag
  have hne : ∀ p : Prop, (t = u → p) → ¬ p → decide (t = u) = false := fun p h1 h2 => decide_eq_false fun e => h2 (h1 e)
  have c0 : ((w.alloc (.cells V.toArray 27)).alloc (.cells U.toArray 27)).cell? ⟨w.heap.size, 0, none⟩ = some (.int .u64 t.key) := by rw [r0.cell]; exact hgt.1
  have c1 : ((w.alloc (.cells V.toArray 27)).alloc (.cells U.toArray 27)).cell? ⟨w.heap.size, 1, none⟩ = some (.string (bstr t.id)) := by rw [r0.cell]; exact hgt.2.1
  have c2 : ((w.alloc (.cells V.toArray 27)).alloc (.cells U.toArray 27)).cell? ⟨w.heap.size, 2, none⟩ = some (.slice A t.cavs.length c) := by rw [r0.cell]; exact hgt.2.2.1
  have c3 : ((w.alloc (.cells V.toArray 27)).alloc (.cells U.toArray 27)).cell? ⟨w.heap.size, 3, none⟩ = some (.bool t.bound) := by rw [r0.cell]; exact hgt.2.2.2
  have d0 : ((w.alloc (.cells V.toArray 27)).alloc (.cells U.toArray 27)).cell? ⟨w.heap.size + 1, 0, none⟩ = some (.int .u64 u.key) := by rw [r1.cell]; exact hgu.1
  have d1 : ((w.alloc (.cells V.toArray 27)).alloc (.cells U.toArray 27)).cell? ⟨w.heap.size + 1, 1, none⟩ = some (.string (bstr u.id)) := by rw [r1.cell]; exact hgu.2.1
  have d2 : ((w.alloc (.cells V.toArray 27)).alloc (.cells U.toArray 27)).cell? ⟨w.heap.size + 1, 2, none⟩ = some (.slice B u.cavs.length d) := by rw [r1.cell]; exact hgu.2.2.1
  have d3 : ((w.alloc (.cells V.toArray 27)).alloc (.cells U.toArray 27)).cell? ⟨w.heap.size + 1, 3, none⟩ = some (.bool u.bound) := by rw [r1.cell]; exact hgu.2.2.2
  have hs1 := hs.later (Nat.le_refl _) hb1
  have hp1 := hp.later (Nat.le_refl _) hb1
  have hlt1 := r0.lt
  have hlt2 := r1.lt
  clear hgt hgu hs hp r0 r1
  go_enter Tryz.func18, Tryz.ntmps18
  by_cases hK : t.key = u.key
  · have HK := Lib.hid hK
    rw [← hK] at d0
    clear hK
    by_cases hI : t.id = u.id
    · have HI := Lib.hid hI
      rw [← hI] at d1
      clear hI
      by_cases hB : t.bound = u.bound
      · have HB := Lib.hid hB
        rw [← hB] at d3
        clear hB
        by_cases hT : t.tag = u.tag
        · rw [decide_eq_true hT] at hE
          have HT := Lib.hid hT
          clear hT
          by_cases hL : t.cavs.length = u.cavs.length
          · have HL := Lib.hid hL
            rw [← hL] at d2
            clear hL
            go_wp2_with (first
              | (refine wpList_step fun K hK => ?_; refine step_load_mid (some 27) rfl (by rfl) 23 (.tmp 26) rfl w.heap.size 4 rfl (byts t.tag) _ tt Tryz.underlying23 rfl hzt.out ?_; refine hK _ _ ?_)
              | (refine wpList_step fun K hK => ?_; refine step_load_mid (some 29) rfl (by rfl) 23 (.tmp 28) rfl (w.heap.size + 1) 4 rfl (byts u.tag) _ tu Tryz.underlying23 rfl hzu.out ?_; refine hK _ _ ?_))
            have HEq := Lib.hid (fun (h : t.cavs = u.cavs) => (show t = u from (Tok.ext_iff' t u).2 ⟨HK.out, HI.out, h, HB.out, HT.out⟩))
            have HNe := Lib.hid (fun (h : t.cavs ≠ u.cavs) => hne (t.cavs = u.cavs) (fun e => by rw [e]) h)
            generalize (w.alloc (.cells V.toArray 27)).alloc (.cells U.toArray 27) = w1 at *
            have hc2 : ∀ w', Below w1.heap.size w1 w' → w'.cell? ⟨w.heap.size, 2, none⟩ = some (.slice A t.cavs.length c) := fun w' h => by rw [h.cell (p := ⟨w.heap.size, 2, none⟩) hlt1]; exact c2
            have hd2 : ∀ w', Below w1.heap.size w1 w' → w'.cell? ⟨w.heap.size + 1, 2, none⟩ = some (.slice B t.cavs.length d) := fun w' h => by rw [h.cell (p := ⟨w.heap.size + 1, 2, none⟩) hlt2]; exact d2
            have hL := HL.out
            clear c0 c1 c2 c3 d0 d1 d2 d3 hE hne HK HI HB HT tt tu hzt hzu HL
            generalize t.cavs = cs at *
            generalize u.cavs = ds at *
            go_loopw [44] (fun i wr => ∃ k : Nat, k ≤ cs.length ∧ i = .int .i64 k ∧ cs.take k = ds.take k ∧ Below w1.heap.size w1 wr) (fun i _ => cs.length - (intOf i).toNat)
            case atStart => exact ⟨0, by omega, rfl, rfl, Below.refl _ _⟩
            case round =>
              obtain ⟨k, hk, rfl, hsame, hb⟩ := hrel
              by_cases hlt : k < cs.length
              · obtain ⟨a, ha⟩ : ∃ a, cs[k]? = some a := ⟨_, List.getElem?_eq_getElem hlt⟩
                obtain ⟨e, he⟩ : ∃ e, ds[k]? = some e := ⟨_, List.getElem?_eq_getElem (by omega)⟩
                obtain ⟨b, o, rfl, hb0, hr0⟩ := hs1.rd.get (i := 0) (by rw [length_cavsV]; omega)
                clear hb0 hr0
                obtain ⟨b', o', rfl, hb0, hr0⟩ := hp1.rd.get (i := 0) (by rw [length_cavsV]; omega)
                clear hb0 hr0
                have hix := index_cav (some ⟨b, o, none⟩) b o cs.length c k rfl hlt
                have hiy := index_cav (some ⟨b', o', none⟩) b' o' cs.length d k rfl hlt
                have hrx := Lib.hid (show ∀ w', Below w1.heap.size w1 w' → w'.rangeAt b (o + k * 5) (cavV a) from fun w' h => (hs1.later (Nat.le_refl _) h).thing (k := 5) (fun _ _ => rfl) k a ha)
                have hry := Lib.hid (show ∀ w', Below w1.heap.size w1 w' → w'.rangeAt b' (o' + k * 5) (cavV e) from fun w' h => (hp1.later (Nat.le_refl _) h).thing (k := 5) (fun _ _ => rfl) k e he)
                have hzx := Lib.hid (show (Tryz.prog.info? 29).map (·.size) = some (cavV a).length from size_cav)
                have hzy := Lib.hid (show (Tryz.prog.info? 29).map (·.size) = some (cavV e).length from size_cav)
                have hE := run_eq_cav a e
                obtain ⟨VX, hVX⟩ : ∃ V, V = cavV a := ⟨_, rfl⟩
                obtain ⟨VY, hVY⟩ : ∃ V, V = cavV e := ⟨_, rfl⟩
                rw [← hVX] at hrx hzx hE
                rw [← hVY] at hry hzy hE
                clear hVX hVY
                by_cases hae : a = e
                · have HS := Lib.hid (take_same hsame ha (by rw [hae]; exact he))
                  rw [decide_eq_true hae] at hE
                  clear hae ha he hsame hs1 hp1
                  go_wp2_with fail
                  refine wp_region_noPanic ?_
                  refine wp_region_held_drew (S := fun w' => Below w1.heap.size w1 w') (by kernel_rfl) (hb.drew) (fun hHeld => ?_)
                  refine rt 0 47 hHeld ?_
                  refine rt 1 48 hHeld ?_
                  refine rt 2 49 hHeld ?_
                  refine rt 3 50 hHeld ?_
                  refine rt 4 51 hHeld ?_ (hy := by intro w hS; exact run_load_op 29 (.tmp 50) rfl b (o + k * 5) rfl VX _ (hrx.out _ hS) Tryz.underlying29 rfl hzx.out)
                  refine rt 5 52 hHeld ?_
                  refine rt 6 53 hHeld ?_
                  refine rt 7 54 hHeld ?_
                  refine rt 8 55 hHeld ?_
                  refine rt 9 56 hHeld ?_ (hy := by intro w hS; exact run_load_op 29 (.tmp 55) rfl b' (o' + k * 5) rfl VY _ (hry.out _ hS) Tryz.underlying29 rfl hzy.out)
                  refine rt 10 57 hHeld ?_
                  refine wpAnyH_done (by kernel_rfl) ?_ _
                  refine NoPanic.normal ?_
                  go_wp2_with fail
                  go_roundw
                  case rel => exact ⟨k + 1, by omega, by go_num, HS.out, hHeld⟩
                  case measure => simp [intOf]; omega
                · have HF := Lib.hid (HNe.out (fun h => hae (by rw [h] at ha; rw [ha] at he; exact Option.some.inj he)))
                  rw [decide_eq_false hae] at hE
                  clear hae ha he hsame hs1 hp1
                  go_wp2_with fail
                  refine wp_region_noPanic ?_
                  refine wp_region_held_drew (S := fun w' => Below w1.heap.size w1 w') (by kernel_rfl) (hb.drew) (fun hHeld => ?_)
                  refine rt 0 47 hHeld ?_
                  refine rt 1 48 hHeld ?_
                  refine rt 2 49 hHeld ?_
                  refine rt 3 50 hHeld ?_
                  refine rt 4 51 hHeld ?_ (hy := by intro w hS; exact run_load_op 29 (.tmp 50) rfl b (o + k * 5) rfl VX _ (hrx.out _ hS) Tryz.underlying29 rfl hzx.out)
                  refine rt 5 52 hHeld ?_
                  refine rt 6 53 hHeld ?_
                  refine rt 7 54 hHeld ?_
                  refine rt 8 55 hHeld ?_
                  refine rt 9 56 hHeld ?_ (hy := by intro w hS; exact run_load_op 29 (.tmp 55) rfl b' (o' + k * 5) rfl VY _ (hry.out _ hS) Tryz.underlying29 rfl hzy.out)
                  refine rt 10 57 hHeld ?_
                  refine wpAnyH_done (by kernel_rfl) ?_ _
                  refine NoPanic.normal ?_
                  go_wp2
                  go_ret
                  exact ⟨by rw [HF.out]; rfl, hb1.trans (hHeld.mono hb1.size)⟩
              · obtain rfl : k = cs.length := by omega
                rw [List.take_length, hL, List.take_length] at hsame
                have HF := Lib.hid (decide_eq_true (HEq.out hsame))
                clear hlt hk hs1 hp1 hsame HEq HNe
                generalize cs.length = n at *
                go_wp2
                go_ret
                exact ⟨by rw [HF.out]; rfl, hb1.trans (hb.mono hb1.size)⟩
          · have HE := Lib.hid (hne (t.cavs.length = u.cavs.length) (fun e => by rw [e]) hL)
            have hL' : ((t.cavs.length : Int) == (u.cavs.length : Int)) = false := by rw [beq_eq_false_iff_ne]; omega
            clear hL hs1 hp1 hne
            go_wp2_with (first
              | (refine wpList_step fun K hK => ?_; refine step_load_mid (some 27) rfl (by rfl) 23 (.tmp 26) rfl w.heap.size 4 rfl (byts t.tag) _ tt Tryz.underlying23 rfl hzt.out ?_; refine hK _ _ ?_)
              | (refine wpList_step fun K hK => ?_; refine step_load_mid (some 29) rfl (by rfl) 23 (.tmp 28) rfl (w.heap.size + 1) 4 rfl (byts u.tag) _ tu Tryz.underlying23 rfl hzu.out ?_; refine hK _ _ ?_))
            go_ret
            exact ⟨by rw [HE.out]; rfl, hb1⟩
        · have HE := Lib.hid (hne _ (fun e => by rw [e]) hT)
          rw [decide_eq_false hT] at hE
          clear hT hne hs1 hp1
          go_wp2_with (first
            | (refine wpList_step fun K hK => ?_; refine step_load_mid (some 27) rfl (by rfl) 23 (.tmp 26) rfl w.heap.size 4 rfl (byts t.tag) _ tt Tryz.underlying23 rfl hzt.out ?_; refine hK _ _ ?_)
            | (refine wpList_step fun K hK => ?_; refine step_load_mid (some 29) rfl (by rfl) 23 (.tmp 28) rfl (w.heap.size + 1) 4 rfl (byts u.tag) _ tu Tryz.underlying23 rfl hzu.out ?_; refine hK _ _ ?_))
          go_ret
          exact ⟨by rw [HE.out]; rfl, hb1⟩
      · have HE := Lib.hid (hne _ (fun e => by rw [e]) hB)
        have hL' : (t.bound == u.bound) = false := by rw [beq_eq_false_iff_ne]; exact hB
        clear hB hne hs1 hp1
        go_wp2
        go_ret
        exact ⟨by rw [HE.out]; rfl, hb1⟩
    · have HE := Lib.hid (hne _ (fun e => by rw [e]) hI)
      have hL' : ¬ (bstr t.id).toList = (bstr u.id).toList := by rw [bstr_toList, bstr_toList]; exact hI
      clear hI hne hs1 hp1
      go_wp2
      go_ret
      exact ⟨by rw [HE.out]; rfl, hb1⟩
  · have HE := Lib.hid (hne _ (fun e => by rw [e]) hK)
    have hL' : ¬ (t.key : Int) = (u.key : Int) := by omega
    clear hK hne hs1 hp1
    go_wp2
    go_ret
    exact ⟨by rw [HE.out]; rfl, hb1⟩
end Go.Proofs.YtimdhdimhboboaaGreatDoor
