/- Texts of this claim, one behind the other. -/
import Derived.Test.YtcbilopdeiapjaaDoorRaak
import Derived.Test.YtcbilopdeiapjaaDoorRaal
import Derived.Test.YtcbilopdeiapjaaDoorRaam
import Derived.Test.YtcbilopdeiapjaaDoorRaad
/- LAYER 10: the document's Same. -/
namespace Go.Proofs.YtcbilopdeiapjaaDoor
set_option maxRecDepth 100000
open Go Go.RowKit

theorem tag_neq (xs ys : List UInt8) (hx : xs.length = 32) (hy : ys.length = 32) (w : World) : (Op.equalIn 10000 25 (.agg (byts xs).toArray) (.agg (byts ys).toArray)).run Tryd.prog w = .ok (decide (xs = ys)) w := by
  obtain ⟨i0, hi, _⟩ := info_parts infoByte
  exact run_eq_bytes 25 32 i0 Tryd.underlying25 hi xs ys hx hy w
theorem run_eq_cav (a b : Cav) (w : World) : (Op.equalIn 10000 48 (.agg (cavV a).toArray) (.agg (cavV b).toArray)).run Tryd.prog w = .ok (decide (a = b)) w := by
  obtain ⟨a1, a2, a3, a4, a5⟩ := a
  obtain ⟨b1, b2, b3, b4, b5⟩ := b
  show (Op.equalIn 10000 48 (.agg #[.bool a1, .string (bstr a2), .int .u64 a3, .string (bstr a4), .string (bstr a5)]) (.agg #[.bool b1, .string (bstr b2), .int .u64 b3, .string (bstr b4), .string (bstr b5)])).run Tryd.prog w = _
  go_simp
  simp only [bstr_toList]
  by_cases h1 : a1 = b1 <;> by_cases h2 : a2 = b2 <;> by_cases h3 : a3 = b3 <;> by_cases h4 : a4 = b4 <;> by_cases h5 : a5 = b5 <;> simp [h1, h2, h3, h4, h5]
  all_goals omega
theorem take_same {cs ds : List Cav} {k : Nat} {a : Cav} (h : cs.take k = ds.take k) (ha : cs[k]? = some a) (hb : ds[k]? = some a) : cs.take (k + 1) = ds.take (k + 1) := by
  rw [List.take_add_one, List.take_add_one, h, ha, hb]
set_option maxRecDepth 100000 in
set_option maxHeartbeats 4000000 in
theorem rsame_any (t u : Tok) (ht : t.Ok) (hu : u.Ok) (A : Option Addr) (c : Nat) (B : Option Addr) (d : Nat) (w : World) (hs : Sl w A (c * 5) (t.cavs.flatMap cavV)) (hp : Sl w B (d * 5) (u.cavs.flatMap cavV)) (hcl : t.cavs.length ≤ 9223372036854775807) :
    Calls Tryd.prog 9 #[.agg (tokV t A c).toArray, .agg (tokV u B d).toArray] w fun e w' => e = .returned (.bool (decide (t = u))) ∧ Below w.heap.size w w' := by
  have hgt := tokV_get t A c
  have hgu := tokV_get u B d
  obtain ⟨V, hV⟩ : ∃ V, V = tokV t A c := ⟨_, rfl⟩
  obtain ⟨U, hU⟩ : ∃ U, U = tokV u B d := ⟨_, rfl⟩
  obtain ⟨r0, r1, hb1, hz⟩ := two_rows (w := w) (A := V) (B := U) (tA := 27) (tB := 27) rfl
  rw [← hV, ← hU]
  have tt := (tok_tag ht (by rw [← hV]; exact r0)).range
  have tu := (tok_tag hu (by rw [← hU]; exact r1)).range
  rw [← hV] at hgt
  rw [← hU] at hgu
  clear hV hU hz
  have hzt := Lib.hid (show (Tryd.prog.info? 25).map (·.size) = some (byts t.tag).length by rw [size_tag, length_byts, ht.tag])
  have hzu := Lib.hid (show (Tryd.prog.info? 25).map (·.size) = some (byts u.tag).length by rw [size_tag, length_byts, hu.tag])
  have hE := tag_neq t.tag u.tag ht.tag hu.tag
  have hne : ∀ p : Prop, (t = u → p) → ¬ p → decide (t = u) = false := fun p h1 h2 => decide_eq_false fun e => h2 (h1 e)
  have c0 : ((w.alloc (.cells V.toArray 27)).alloc (.cells U.toArray 27)).cell? ⟨w.heap.size, 0, none⟩ = some (.int .u64 t.key) := by rw [r0.cell]; exact hgt.1
  have c1 : ((w.alloc (.cells V.toArray 27)).alloc (.cells U.toArray 27)).cell? ⟨w.heap.size, 1, none⟩ = some (.string (bstr t.id)) := by rw [r0.cell]; exact hgt.2.1
  have c2 : ((w.alloc (.cells V.toArray 27)).alloc (.cells U.toArray 27)).cell? ⟨w.heap.size, 2, none⟩ = some (.slice A t.cavs.length c) := by rw [r0.cell]; exact hgt.2.2.1
  have c3 : ((w.alloc (.cells V.toArray 27)).alloc (.cells U.toArray 27)).cell? ⟨w.heap.size, 3, none⟩ = some (.bool t.bound) := by rw [r0.cell]; exact hgt.2.2.2
  have d0 : ((w.alloc (.cells V.toArray 27)).alloc (.cells U.toArray 27)).cell? ⟨w.heap.size + 1, 0, none⟩ = some (.int .u64 u.key) := by rw [r1.cell]; exact hgu.1
  have d1 : ((w.alloc (.cells V.toArray 27)).alloc (.cells U.toArray 27)).cell? ⟨w.heap.size + 1, 1, none⟩ = some (.string (bstr u.id)) := by rw [r1.cell]; exact hgu.2.1
  have d2 : ((w.alloc (.cells V.toArray 27)).alloc (.cells U.toArray 27)).cell? ⟨w.heap.size + 1, 2, none⟩ = some (.slice B u.cavs.length d) := by rw [r1.cell]; exact hgu.2.2.1
  have d3 : ((w.alloc (.cells V.toArray 27)).alloc (.cells U.toArray 27)).cell? ⟨w.heap.size + 1, 3, none⟩ = some (.bool u.bound) := by rw [r1.cell]; exact hgu.2.2.2
  have hs1 := hs.later (Nat.le_refl _) hb1
  have hp1 := hp.later (Nat.le_refl _) hb1
  have hlt1 := r0.lt
  have hlt2 := r1.lt
  clear hgt hgu hs hp r0 r1
  go_enter Tryd.func9, Tryd.ntmps9
  by_cases hK : t.key = u.key
  · have HK := Lib.hid hK
    rw [← hK] at d0
    clear hK
    by_cases hI : t.id = u.id
    · have HI := Lib.hid hI
      rw [← hI] at d1
      clear hI
      by_cases hB : t.bound = u.bound
      · have HB := Lib.hid hB
        rw [← hB] at d3
        clear hB
        by_cases hT : t.tag = u.tag
        · rw [decide_eq_true hT] at hE
          have HT := Lib.hid hT
          clear hT
          by_cases hL : t.cavs.length = u.cavs.length
          · have HL := Lib.hid hL
            rw [← hL] at d2
            clear hL
            go_wp2_with (first
              | (refine wpList_step fun K hK => ?_; refine step_load_mid (some 27) rfl (by rfl) 25 (.tmp 26) rfl w.heap.size 4 rfl (byts t.tag) _ tt Tryd.underlying25 rfl hzt.out ?_; refine hK _ _ ?_)
              | (refine wpList_step fun K hK => ?_; refine step_load_mid (some 29) rfl (by rfl) 25 (.tmp 28) rfl (w.heap.size + 1) 4 rfl (byts u.tag) _ tu Tryd.underlying25 rfl hzu.out ?_; refine hK _ _ ?_))
            have HEq := Lib.hid (fun (h : t.cavs = u.cavs) => (show t = u from (Tok.ext_iff' t u).2 ⟨HK.out, HI.out, h, HB.out, HT.out⟩))
            have HNe := Lib.hid (fun (h : t.cavs ≠ u.cavs) => hne (t.cavs = u.cavs) (fun e => by rw [e]) h)
            generalize (w.alloc (.cells V.toArray 27)).alloc (.cells U.toArray 27) = w1 at *
            have hc2 : ∀ w', Below w1.heap.size w1 w' → w'.cell? ⟨w.heap.size, 2, none⟩ = some (.slice A t.cavs.length c) := fun w' h => by rw [h.cell (p := ⟨w.heap.size, 2, none⟩) hlt1]; exact c2
            have hd2 : ∀ w', Below w1.heap.size w1 w' → w'.cell? ⟨w.heap.size + 1, 2, none⟩ = some (.slice B t.cavs.length d) := fun w' h => by rw [h.cell (p := ⟨w.heap.size + 1, 2, none⟩) hlt2]; exact d2
            have hL := HL.out
            clear c0 c1 c2 c3 d0 d1 d2 d3 hE hne HK HI HB HT tt tu hzt hzu HL
            generalize t.cavs = cs at *
            generalize u.cavs = ds at *
            go_loopw [44] (fun i wr => ∃ k : Nat, k ≤ cs.length ∧ i = .int .i64 k ∧ cs.take k = ds.take k ∧ Below w1.heap.size w1 wr) (fun i _ => cs.length - (intOf i).toNat)
            case atStart => exact ⟨0, by omega, rfl, rfl, Below.refl _ _⟩
            case round =>
              obtain ⟨k, hk, rfl, hsame, hb⟩ := hrel
              by_cases hlt : k < cs.length
              · obtain ⟨a, ha⟩ : ∃ a, cs[k]? = some a := ⟨_, List.getElem?_eq_getElem hlt⟩
                obtain ⟨e, he⟩ : ∃ e, ds[k]? = some e := ⟨_, List.getElem?_eq_getElem (by omega)⟩
                obtain ⟨b, o, rfl, hb0, hr0⟩ := hs1.rd.get (i := 0) (by rw [length_cavsV]; omega)
                clear hb0 hr0
                obtain ⟨b', o', rfl, hb0, hr0⟩ := hp1.rd.get (i := 0) (by rw [length_cavsV]; omega)
                clear hb0 hr0
                have hix := index_cav (some ⟨b, o, none⟩) b o cs.length c k rfl hlt
                have hiy := index_cav (some ⟨b', o', none⟩) b' o' cs.length d k rfl hlt
                have hrx := Lib.hid (show ∀ w', Below w1.heap.size w1 w' → w'.rangeAt b (o + k * 5) (cavV a) from fun w' h => (hs1.later (Nat.le_refl _) h).thing (k := 5) (fun _ _ => rfl) k a ha)
                have hry := Lib.hid (show ∀ w', Below w1.heap.size w1 w' → w'.rangeAt b' (o' + k * 5) (cavV e) from fun w' h => (hp1.later (Nat.le_refl _) h).thing (k := 5) (fun _ _ => rfl) k e he)
                have hzx := Lib.hid (show (Tryd.prog.info? 48).map (·.size) = some (cavV a).length from size_cav)
                have hzy := Lib.hid (show (Tryd.prog.info? 48).map (·.size) = some (cavV e).length from size_cav)
                have hE := run_eq_cav a e
                obtain ⟨VX, hVX⟩ : ∃ V, V = cavV a := ⟨_, rfl⟩
                obtain ⟨VY, hVY⟩ : ∃ V, V = cavV e := ⟨_, rfl⟩
                rw [← hVX] at hrx hzx hE
                rw [← hVY] at hry hzy hE
                clear hVX hVY
                by_cases hae : a = e
                · have HS := Lib.hid (take_same hsame ha (by rw [hae]; exact he))
                  rw [decide_eq_true hae] at hE
                  clear hae ha he hsame hs1 hp1
                  go_wp2_with fail
                  refine wp_region_noPanic ?_
                  refine wp_region_held_drew (S := fun w' => Below w1.heap.size w1 w') (by kernel_rfl) (hb.drew) (fun hHeld => ?_)
                  refine rt 0 47 hHeld ?_
                  refine rt 1 48 hHeld ?_
                  refine rt 2 49 hHeld ?_
                  refine rt 3 50 hHeld ?_
                  refine rt 4 51 hHeld ?_ (hy := by intro w hS; exact run_load_op 48 (.tmp 50) rfl b (o + k * 5) rfl VX _ (hrx.out _ hS) Tryd.underlying48 rfl hzx.out)
                  refine rt 5 52 hHeld ?_
                  refine rt 6 53 hHeld ?_
                  refine rt 7 54 hHeld ?_
                  refine rt 8 55 hHeld ?_
                  refine rt 9 56 hHeld ?_ (hy := by intro w hS; exact run_load_op 48 (.tmp 55) rfl b' (o' + k * 5) rfl VY _ (hry.out _ hS) Tryd.underlying48 rfl hzy.out)
                  refine rt 10 57 hHeld ?_
                  refine wpAnyH_done (by kernel_rfl) ?_ _
                  refine NoPanic.normal ?_
                  go_wp2_with fail
                  go_roundw
                  case rel => exact ⟨k + 1, by omega, by go_num, HS.out, hHeld⟩
                  case measure => simp [intOf]; omega
                · have HF := Lib.hid (HNe.out (fun h => hae (by rw [h] at ha; rw [ha] at he; exact Option.some.inj he)))
                  rw [decide_eq_false hae] at hE
                  clear hae ha he hsame hs1 hp1
                  go_wp2_with fail
                  refine wp_region_noPanic ?_
                  refine wp_region_held_drew (S := fun w' => Below w1.heap.size w1 w') (by kernel_rfl) (hb.drew) (fun hHeld => ?_)
                  refine rt 0 47 hHeld ?_
                  refine rt 1 48 hHeld ?_
                  refine rt 2 49 hHeld ?_
                  refine rt 3 50 hHeld ?_
                  refine rt 4 51 hHeld ?_ (hy := by intro w hS; exact run_load_op 48 (.tmp 50) rfl b (o + k * 5) rfl VX _ (hrx.out _ hS) Tryd.underlying48 rfl hzx.out)
                  refine rt 5 52 hHeld ?_
                  refine rt 6 53 hHeld ?_
                  refine rt 7 54 hHeld ?_
                  refine rt 8 55 hHeld ?_
                  refine rt 9 56 hHeld ?_ (hy := by intro w hS; exact run_load_op 48 (.tmp 55) rfl b' (o' + k * 5) rfl VY _ (hry.out _ hS) Tryd.underlying48 rfl hzy.out)
                  refine rt 10 57 hHeld ?_
                  refine wpAnyH_done (by kernel_rfl) ?_ _
                  refine NoPanic.normal ?_
                  go_wp2
                  go_ret
                  exact ⟨by rw [HF.out]; rfl, hb1.trans (hHeld.mono hb1.size)⟩
              · obtain rfl : k = cs.length := by omega
                rw [List.take_length, hL, List.take_length] at hsame
                have HF := Lib.hid (decide_eq_true (HEq.out hsame))
                clear hlt hk hs1 hp1 hsame HEq HNe
                generalize cs.length = n at *
                go_wp2
                go_ret
                exact ⟨by rw [HF.out]; rfl, hb1.trans (hb.mono hb1.size)⟩
          · have HE := Lib.hid (hne (t.cavs.length = u.cavs.length) (fun e => by rw [e]) hL)
            have hL' : ((t.cavs.length : Int) == (u.cavs.length : Int)) = false := by rw [beq_eq_false_iff_ne]; omega
            clear hL hs1 hp1 hne
            go_wp2_with (first
              | (refine wpList_step fun K hK => ?_; refine step_load_mid (some 27) rfl (by rfl) 25 (.tmp 26) rfl w.heap.size 4 rfl (byts t.tag) _ tt Tryd.underlying25 rfl hzt.out ?_; refine hK _ _ ?_)
              | (refine wpList_step fun K hK => ?_; refine step_load_mid (some 29) rfl (by rfl) 25 (.tmp 28) rfl (w.heap.size + 1) 4 rfl (byts u.tag) _ tu Tryd.underlying25 rfl hzu.out ?_; refine hK _ _ ?_))
            go_ret
            exact ⟨by rw [HE.out]; rfl, hb1⟩
        · have HE := Lib.hid (hne _ (fun e => by rw [e]) hT)
          rw [decide_eq_false hT] at hE
          clear hT hne hs1 hp1
          go_wp2_with (first
            | (refine wpList_step fun K hK => ?_; refine step_load_mid (some 27) rfl (by rfl) 25 (.tmp 26) rfl w.heap.size 4 rfl (byts t.tag) _ tt Tryd.underlying25 rfl hzt.out ?_; refine hK _ _ ?_)
            | (refine wpList_step fun K hK => ?_; refine step_load_mid (some 29) rfl (by rfl) 25 (.tmp 28) rfl (w.heap.size + 1) 4 rfl (byts u.tag) _ tu Tryd.underlying25 rfl hzu.out ?_; refine hK _ _ ?_))
          go_ret
          exact ⟨by rw [HE.out]; rfl, hb1⟩
      · have HE := Lib.hid (hne _ (fun e => by rw [e]) hB)
        have hL' : (t.bound == u.bound) = false := by rw [beq_eq_false_iff_ne]; exact hB
        clear hB hne hs1 hp1
        go_wp2
        go_ret
        exact ⟨by rw [HE.out]; rfl, hb1⟩
    · have HE := Lib.hid (hne _ (fun e => by rw [e]) hI)
      have hL' : ¬ (bstr t.id).toList = (bstr u.id).toList := by rw [bstr_toList, bstr_toList]; exact hI
      clear hI hne hs1 hp1
      go_wp2
      go_ret
      exact ⟨by rw [HE.out]; rfl, hb1⟩
  · have HE := Lib.hid (hne _ (fun e => by rw [e]) hK)
    have hL' : ¬ (t.key : Int) = (u.key : Int) := by omega
    clear hK hne hs1 hp1
    go_wp2
    go_ret
    exact ⟨by rw [HE.out]; rfl, hb1⟩
end Go.Proofs.YtcbilopdeiapjaaDoor

/- LAYER 20, ThirdAdds: the walk of the law. -/
namespace Go.Proofs.YtcbilopdeiapjaaDoor
set_option maxRecDepth 100000
open Go Go.RowKit

/-- What holds from the law's start on. -/
structure AddsI (w : World) (X D : List Value) (t : Tok) (A : Option Addr) (c : Nat) (wx : World) : Prop where
  tok : Row wx w.heap.size 27 X
  deal : Row wx (w.heap.size + 1) 29 D
  sl : Sl wx A (c * 5) (t.cavs.flatMap cavV)
  env : Tabs wx
  bel : Below w.heap.size w wx
theorem AddsI.later {w wx wy : World} {X D : List Value} {t : Tok} {A : Option Addr} {c : Nat} (h : AddsI w X D t A c wx) (hq : Below wx.heap.size wx wy) : AddsI w X D t A c wy :=
  ⟨h.tok.later hq h.tok.lt, h.deal.later hq h.deal.lt, h.sl.later (Nat.le_refl _) hq, h.env.later hq (Nat.le_refl _), h.bel.trans (hq.mono h.bel.size)⟩
theorem thirdT_len (t : Tok) (d : Deal) : (thirdT t d).cavs.length ≤ t.cavs.length + 1 := by
  unfold thirdT; split
  · show (t.cavs ++ [cavD t.tag d]).length ≤ _; rw [List.length_append]; exact Nat.le_refl _
  · exact Nat.zero_le _
set_option maxHeartbeats 8000000 in
theorem tadds_g1 (t : Tok) (ht : t.Ok) (htf : t.Fit) (A : Option Addr) (c : Nat) (d : Deal) (hd : d.Ok) (w : World) (hs : Sl w A (c * 5) (t.cavs.flatMap cavV)) (hT : Tabs w) (g1 : 10000 < capT t) :
    Calls Tryd.prog 3 #[.agg (tokV t A c).toArray, .agg (dealV d).toArray] w fun e w' => e = .returned (.bool true) ∧ Below w.heap.size w w' := by
  obtain ⟨X, hX⟩ : ∃ X, X = tokV t A c := ⟨_, rfl⟩
  have hXl : X.length = 36 := by rw [hX]; exact length_tokV ht A c
  have hzX := Lib.hid (show (Tryd.prog.info? 27).map (·.size) = some X.length by rw [hXl]; exact size_tok)
  obtain ⟨D, hD⟩ : ∃ D, D = dealV d := ⟨_, rfl⟩
  have hDl : D.length = 130 := by rw [hD]; exact length_dealV hd
  have hzD := Lib.hid (show (Tryd.prog.info? 29).map (·.size) = some D.length by rw [hDl]; exact size_deal)
  obtain ⟨w1, hw1⟩ : ∃ w1, w1 = (w.alloc (.cells X.toArray 27)).alloc (.cells D.toArray 29) := ⟨_, rfl⟩
  obtain ⟨r1, r2, hb1⟩ := two_rows19 hw1.symm
  have HW := Lib.hid hw1
  have I : AddsI w X D t A c w1 := ⟨r1, r2, hs.later (Nat.le_refl _) hb1, hT.later hb1 (Nat.le_refl _), hb1⟩
  have hgt := fun w' h => rgreatT_any t htf A c w' h
  have hsz : ((bstr d.cond).size : Int) = (d.cond.length : Int) := by rw [size_bstr]
  have HX := Lib.hid hX
  have HD := Lib.hid hD
  have HC := Lib.hid (fun (w' : World) (h : Row w' (w.heap.size + 1) 29 D) => deal_cond (hD ▸ h) hd)
  rw [← hX] at hgt
  rw [← hX, ← hD]
  clear hw1 hX hXl hD hDl r1 r2 hb1
  have tok1 : True := trivial
  simp only [if_pos g1] at hgt
  have hgt := Lib.hid hgt
  go_enter Tryd.func3, Tryd.ntmps3
  go_wp2_with (first
    | (have _t := tok1; rw [← HW.out]; clear tok1)
    | (go_at_call 5; refine (talive20_any _ I.env).mono ?_; rintro e w2 ⟨rfl, hq⟩; have I := I.later hq; have K2 := Lib.hid (row_range I.tok); clear hq)
    | (with_reducible refine wpList_load_mid rfl 27 (.tmp 2) rfl w.heap.size 0 rfl X _ K2.out Tryd.underlying27 rfl hzX.out ?_)
    | (go_at_call 6; refine (hgt.out _ I.sl).mono ?_; rintro e w3 ⟨rfl, hq⟩; have I := I.later hq; have hcc := HC.out _ I.deal; clear hq))
  go_ret
  exact ⟨rfl, I.bel⟩
set_option maxHeartbeats 8000000 in
theorem tadds_g2 (t : Tok) (ht : t.Ok) (htf : t.Fit) (A : Option Addr) (c : Nat) (d : Deal) (hd : d.Ok) (w : World) (hs : Sl w A (c * 5) (t.cavs.flatMap cavV)) (hT : Tabs w) (g1 : ¬ 10000 < capT t) (g2 : 600 < d.cond.length) :
    Calls Tryd.prog 3 #[.agg (tokV t A c).toArray, .agg (dealV d).toArray] w fun e w' => e = .returned (.bool true) ∧ Below w.heap.size w w' := by
  obtain ⟨X, hX⟩ : ∃ X, X = tokV t A c := ⟨_, rfl⟩
  have hXl : X.length = 36 := by rw [hX]; exact length_tokV ht A c
  have hzX := Lib.hid (show (Tryd.prog.info? 27).map (·.size) = some X.length by rw [hXl]; exact size_tok)
  obtain ⟨D, hD⟩ : ∃ D, D = dealV d := ⟨_, rfl⟩
  have hDl : D.length = 130 := by rw [hD]; exact length_dealV hd
  have hzD := Lib.hid (show (Tryd.prog.info? 29).map (·.size) = some D.length by rw [hDl]; exact size_deal)
  obtain ⟨w1, hw1⟩ : ∃ w1, w1 = (w.alloc (.cells X.toArray 27)).alloc (.cells D.toArray 29) := ⟨_, rfl⟩
  obtain ⟨r1, r2, hb1⟩ := two_rows19 hw1.symm
  have HW := Lib.hid hw1
  have I : AddsI w X D t A c w1 := ⟨r1, r2, hs.later (Nat.le_refl _) hb1, hT.later hb1 (Nat.le_refl _), hb1⟩
  have hgt := fun w' h => rgreatT_any t htf A c w' h
  have hsz : ((bstr d.cond).size : Int) = (d.cond.length : Int) := by rw [size_bstr]
  have HX := Lib.hid hX
  have HD := Lib.hid hD
  have HC := Lib.hid (fun (w' : World) (h : Row w' (w.heap.size + 1) 29 D) => deal_cond (hD ▸ h) hd)
  rw [← hX] at hgt
  rw [← hX, ← hD]
  clear hw1 hX hXl hD hDl r1 r2 hb1
  have tok1 : True := trivial
  simp only [if_neg g1] at hgt
  have hgt := Lib.hid hgt
  have g2' : (600 : Int) < (d.cond.length : Int) := by omega
  go_enter Tryd.func3, Tryd.ntmps3
  go_wp2_with (first
    | (have _t := tok1; rw [← HW.out]; clear tok1)
    | (go_at_call 5; refine (talive20_any _ I.env).mono ?_; rintro e w2 ⟨rfl, hq⟩; have I := I.later hq; have K2 := Lib.hid (row_range I.tok); clear hq)
    | (with_reducible refine wpList_load_mid rfl 27 (.tmp 2) rfl w.heap.size 0 rfl X _ K2.out Tryd.underlying27 rfl hzX.out ?_)
    | (go_at_call 6; refine (hgt.out _ I.sl).mono ?_; rintro e w3 ⟨rfl, hq⟩; have I := I.later hq; have hcc := HC.out _ I.deal; clear hq))
  go_ret
  exact ⟨rfl, I.bel⟩
set_option maxHeartbeats 8000000 in
theorem tadds_main (t : Tok) (ht : t.Ok) (htf : t.Fit) (A : Option Addr) (c : Nat) (d : Deal) (hd : d.Ok) (w : World) (hs : Sl w A (c * 5) (t.cavs.flatMap cavV)) (hT : Tabs w) (g1 : ¬ 10000 < capT t) (g2 : ¬ 600 < d.cond.length) :
    Calls Tryd.prog 3 #[.agg (tokV t A c).toArray, .agg (dealV d).toArray] w fun e w' => e = .returned (.bool true) ∧ Below w.heap.size w w' := by
  obtain ⟨X, hX⟩ : ∃ X, X = tokV t A c := ⟨_, rfl⟩
  have hXl : X.length = 36 := by rw [hX]; exact length_tokV ht A c
  have hzX := Lib.hid (show (Tryd.prog.info? 27).map (·.size) = some X.length by rw [hXl]; exact size_tok)
  obtain ⟨D, hD⟩ : ∃ D, D = dealV d := ⟨_, rfl⟩
  have hDl : D.length = 130 := by rw [hD]; exact length_dealV hd
  have hzD := Lib.hid (show (Tryd.prog.info? 29).map (·.size) = some D.length by rw [hDl]; exact size_deal)
  obtain ⟨w1, hw1⟩ : ∃ w1, w1 = (w.alloc (.cells X.toArray 27)).alloc (.cells D.toArray 29) := ⟨_, rfl⟩
  obtain ⟨r1, r2, hb1⟩ := two_rows19 hw1.symm
  have HW := Lib.hid hw1
  have I : AddsI w X D t A c w1 := ⟨r1, r2, hs.later (Nat.le_refl _) hb1, hT.later hb1 (Nat.le_refl _), hb1⟩
  have hgt := fun w' h => rgreatT_any t htf A c w' h
  have hsz : ((bstr d.cond).size : Int) = (d.cond.length : Int) := by rw [size_bstr]
  have HX := Lib.hid hX
  have HD := Lib.hid hD
  have HC := Lib.hid (fun (w' : World) (h : Row w' (w.heap.size + 1) 29 D) => deal_cond (hD ▸ h) hd)
  rw [← hX] at hgt
  rw [← hX, ← hD]
  clear hw1 hX hXl hD hDl r1 r2 hb1
  have tok1 : True := trivial
  simp only [if_neg g1] at hgt
  have hgt := Lib.hid hgt
  have hml : t.cavs.length ≤ 1000000 := by
    have h1 := capT_len t.cavs
    unfold capT at g1; omega
  have hda := Lib.hid (show ∀ w', Tabs w' → Sl w' A (c * 5) (t.cavs.flatMap cavV) → Calls Tryd.prog 7 #[.agg X.toArray, .agg D.toArray] w' (GaveTok (thirdT t d) (errThird t d) w') by
    rw [HX.out, HD.out]; exact fun w' h hs => tadd20_any t ht (by omega) d hd (by omega) A c w' h hs)
  have hra := Lib.hid (show ∀ w', Sl w' A (c * 5) (t.cavs.flatMap cavV) → Calls Tryd.prog 8 #[.agg X.toArray, .agg D.toArray] w' (GaveTok (thirdT t d) (errThird t d) w') by
    rw [HX.out, HD.out]; exact fun w' hs => radd20_any t ht d hd (by omega) hml A c w' hs)
  have hUo := thirdT_ok ht hd
  have hUl := thirdT_len t d
  have g2' : ¬ (600 : Int) < (d.cond.length : Int) := by omega
  generalize thirdT t d = U at *
  generalize errThird t d = er at *
  have hss := Lib.hid (fun (B : Option Addr) (d : Nat) (B' : Option Addr) (d' : Nat) (w' : World) h h' => rsame_any U U hUo hUo B d B' d' w' h h' (by omega))
  simp only [decide_true] at hss
  clear hUl hml
  unfold GaveTok at hda hra
  go_enter Tryd.func3, Tryd.ntmps3
  go_wp2_with (first
    | (have _t := tok1; rw [← HW.out]; clear tok1)
    | (go_at_call 5; refine (talive20_any _ I.env).mono ?_; rintro e w2 ⟨rfl, hq⟩; have I := I.later hq; have K2 := Lib.hid (row_range I.tok); clear hq)
    | (with_reducible refine wpList_load_mid rfl 27 (.tmp 2) rfl w.heap.size 0 rfl X _ K2.out Tryd.underlying27 rfl hzX.out ?_)
    | (with_reducible refine wpList_load_mid rfl 29 (.tmp 3) rfl (w.heap.size + 1) 0 rfl D _ K3.out Tryd.underlying29 rfl hzD.out ?_)
    | (go_at_call 6; refine (hgt.out _ I.sl).mono ?_; rintro e w3 ⟨rfl, hq⟩; have I := I.later hq; have hcc := HC.out _ I.deal; clear hq; have K2 := Lib.hid (row_range I.tok); have K3 := Lib.hid (row_range I.deal))
    | (go_at_call 7; refine (hda.out _ I.env I.sl).mono ?_; rintro e w4 ⟨B1, d1, rfl, t1, -, hq⟩; have I := I.later hq; clear hq; have hVl := length_tokV hUo B1 d1; have hzV := Lib.hid (show (Tryd.prog.info? 27).map (·.size) = some (tokV U B1 d1).toArray.size by rw [List.size_toArray, hVl]; exact size_tok); have h36 := Lib.hid (show 36 = (tokV U B1 d1).toArray.size by rw [List.size_toArray, hVl]); have hV1 := Lib.hid (show (tokV U B1 d1).toArray.all (·.oneCell') = true by rw [List.all_toArray, List.all_eq_true]; exact tokV_one _ _ _); clear hVl)
    | (have _t := h36; refine wpList_store_row rfl 27 (.tmp 5) (.tmp 24) rfl w4.heap.size (tokV U B1 d1).toArray rfl rfl 27 _ (heap_alloc_new w4 _) hzV.out (Eq.trans (by kernel_rfl) h36.out) hV1.out ?_; refine Hid.out ?_))
  refine Lib.hid ?_
  generalize hww : World.setRow _ _ _ = w5
  obtain ⟨q1, hq⟩ := row_new_set (xs := tokV U B1 d1) hww
  have I := I.later hq
  have t1 := t1.later (Nat.le_refl _) hq
  generalize w4.heap.size = b1 at *
  clear hww hq hzV h36 hV1 hda K2 K3 hcc
  have K2 := Lib.hid (row_range I.tok)
  have K3 := Lib.hid (row_range I.deal)
  go_wp2_with (first
    | (with_reducible refine wpList_load_mid rfl 27 (.tmp 2) rfl w.heap.size 0 rfl X _ K2.out Tryd.underlying27 rfl hzX.out ?_)
    | (with_reducible refine wpList_load_mid rfl 29 (.tmp 3) rfl (w.heap.size + 1) 0 rfl D _ K3.out Tryd.underlying29 rfl hzD.out ?_)
    | (go_at_call 8; refine (hra.out _ I.sl).mono ?_; rintro e w6 ⟨B2, d2, rfl, t2, -, hq⟩; have I := I.later hq; have t1 := t1.later (Nat.le_refl _) hq; have q1 := q1.later hq q1.lt; clear hq; have hVl := length_tokV hUo B2 d2; have hzV := Lib.hid (show (Tryd.prog.info? 27).map (·.size) = some (tokV U B2 d2).toArray.size by rw [List.size_toArray, hVl]; exact size_tok); have h36 := Lib.hid (show 36 = (tokV U B2 d2).toArray.size by rw [List.size_toArray, hVl]); have hV1 := Lib.hid (show (tokV U B2 d2).toArray.all (·.oneCell') = true by rw [List.all_toArray, List.all_eq_true]; exact tokV_one _ _ _); clear hVl)
    | (have _t := h36; refine wpList_store_row rfl 27 (.tmp 7) (.tmp 30) rfl w6.heap.size (tokV U B2 d2).toArray rfl rfl 27 _ (heap_alloc_new w6 _) hzV.out (Eq.trans (by kernel_rfl) h36.out) hV1.out ?_; refine Hid.out ?_))
  refine Lib.hid ?_
  generalize hww : World.setRow _ _ _ = w7
  obtain ⟨q2, hq⟩ := row_new_set (xs := tokV U B2 d2) hww
  have I := I.later hq
  have t1 := t1.later (Nat.le_refl _) hq
  have q1 := q1.later hq q1.lt
  have t2 := t2.later (Nat.le_refl _) hq
  generalize w6.heap.size = b2 at *
  have hz1 := Lib.hid (show (Tryd.prog.info? 27).map (·.size) = some (tokV U B1 d1).length by rw [length_tokV hUo]; exact size_tok)
  have hz2 := Lib.hid (show (Tryd.prog.info? 27).map (·.size) = some (tokV U B2 d2).length by rw [length_tokV hUo]; exact size_tok)
  have hsm := Lib.hid (hss.out B1 d1 B2 d2)
  clear hww hq hzV h36 hV1 hra K2 K3 hss hUo
  go_wp2_with (first
    | ((with_reducible refine wpList_step fun K hK => ?_); refine step_load_mid (some 36) rfl (by rfl) 27 (.tmp 5) rfl b1 0 rfl (tokV U B1 d1) _ (row_range q1) Tryd.underlying27 rfl hz1.out ?_; refine hK _ _ ?_; clear hK)
    | ((with_reducible refine wpList_step fun K hK => ?_); refine step_load_mid (some 37) rfl (by rfl) 27 (.tmp 7) rfl b2 0 rfl (tokV U B2 d2) _ (row_range q2) Tryd.underlying27 rfl hz2.out ?_; refine hK _ _ ?_; clear hK)
    | (go_at_call 9; refine (hsm.out _ t1 t2).mono ?_; rintro e w8 ⟨rfl, hq⟩; have I := I.later hq; clear hq))
  go_ret
  exact ⟨by first | rfl | simp, I.bel⟩
theorem tadds_walk (t : Tok) (ht : t.Ok) (htf : t.Fit) (A : Option Addr) (c : Nat) (d : Deal) (hd : d.Ok) (w : World) (hs : Sl w A (c * 5) (t.cavs.flatMap cavV)) (hT : Tabs w) :
    Calls Tryd.prog 3 #[.agg (tokV t A c).toArray, .agg (dealV d).toArray] w fun e w' => e = .returned (.bool true) ∧ Below w.heap.size w w' := by
  by_cases g1 : 10000 < capT t
  · exact tadds_g1 t ht htf A c d hd w hs hT g1
  by_cases g2 : 600 < d.cond.length
  · exact tadds_g2 t ht htf A c d hd w hs hT g1 g2
  exact tadds_main t ht htf A c d hd w hs hT g1 g2
end Go.Proofs.YtcbilopdeiapjaaDoor
