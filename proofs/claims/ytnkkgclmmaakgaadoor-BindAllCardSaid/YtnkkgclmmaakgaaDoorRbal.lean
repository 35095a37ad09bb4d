/- Texts of this claim, one behind the other. -/
import Derived.Test.YtnkkgclmmaakgaaDoorRbai
import Derived.Test.YtnkkgclmmaakgaaDoorRbak
import Derived.Test.YtnkkgclmmaakgaaDoorRbac
/- LAYER 21: the document's All. -/
namespace Go.Proofs.YtnkkgclmmaakgaaDoor
set_option maxRecDepth 100000
open Go Go.RowKit

set_option maxHeartbeats 8000000 in
theorem rall21_v {lo : Nat} {b : Bun} {w : World} {v : Value} (hb : b.Ok) (hm : ∀ e ∈ b.root :: b.dis, e.cavs.length ≤ 1000000) (hn : b.dis.length ≤ 1000000) (h : BunV lo b w v) :
    Calls Tryd.prog 17 #[v] w fun e w' => ∃ u, e = .returned (.tuple #[u, .int .i64 (errAll b)]) ∧ BunV 0 (allB b) w' u ∧ Below w.heap.size w w' := by
  have hck := Lib.hid (fun w' (hq : Below w.heap.size w w') => rbcheck_v hb (h.later hq))
  obtain ⟨A, c, B, d, ds0, rfl, hbo, hs, hp⟩ := h.parts
  have hdis : b.dis = toks ds0 := bunOf_dis hbo
  have hok : ∀ e ∈ toks ds0, e.Ok := by rw [← hdis]; exact hb.dis
  have hmd : ∀ e ∈ toks ds0, e.cavs.length ≤ 1000000 := by rw [← hdis]; exact fun e he => hm e (List.mem_cons_of_mem _ he)
  have hnl : ds0.length ≤ 1000000 := by rw [← toks_len ds0, ← hdis]; exact hn
  have hr := hb.root
  have hE : errAll b = if checkB b = true then 0 else 1 := rfl
  have hG : allB b = if checkB b = true then ⟨b.root, (toks ds0).map (eachD b.root.tag)⟩ else zeroB := by unfold allB; rw [hdis]
  obtain ⟨Z, hZ⟩ : ∃ Z, Z = bunV zeroK none 0 none 0 0 := ⟨_, rfl⟩
  have hZl : Z.length = 37 := by rw [hZ]; exact length_bunV zeroK_ok none 0 none 0 0
  have hZe := Lib.hid (hZ.trans zbun)
  have hzZ := Lib.hid (show (Tryd.prog.info? 40).map (·.size) = some Z.toArray.size by rw [size_bun, List.size_toArray, hZl])
  have hZ1 := Lib.hid (show Z.toArray.all (·.oneCell') = true by rw [hZ, List.all_toArray, List.all_eq_true]; exact bunV_one _ _ _ _ _ _)
  obtain ⟨V, hV⟩ : ∃ V, V = bunV b.root A c B ds0.length d := ⟨_, rfl⟩
  have hVl : V.length = 37 := by rw [hV]; exact length_bunV hr A c B ds0.length d
  have hzV := Lib.hid (show (Tryd.prog.info? 40).map (·.size) = some V.toArray.size by rw [size_bun, List.size_toArray, hVl])
  obtain ⟨w1, hw1⟩ : ∃ w1, w1 = (w.alloc (.cells V.toArray 40)).alloc (.cells Z.toArray 40) := ⟨_, rfl⟩
  obtain ⟨r1, r2, hb1⟩ := two_rows19 hw1.symm
  have HW := Lib.hid (hw1.trans (by rw [hZe.out]))
  rw [← hV] at hck ⊢
  have HV := Lib.hid hV
  have HZ := Lib.hid hZ
  have hLw := Lib.hid (show w.heap.size + 1 < w1.heap.size from r2.lt)
  have R1 := Lib.hid (show w1.heap[w.heap.size]? = some (.cells V.toArray 40 (0, 0)) from r1)
  have tok1 : True := trivial
  clear hw1 hZ hV hdis hm hn hbo
  generalize hcb : checkB b = ok at *
  cases ok with
  | false =>
    have e1 : errAll b = 1 := hE.trans (if_neg (by decide))
    have e2 : allB b = zeroB := hG.trans (if_neg (by decide))
    rw [e1, e2]
    clear hE hG e1 e2 hVl hZl hs hp hok hmd hnl
    go_enter Tryd.func17, Tryd.ntmps17
    go_wp2_with (first
      | (have _t := tok1; rw [← HW.out]; clear tok1)
      | (with_reducible refine wpList_load_row rfl 40 (.tmp 1) rfl w.heap.size rfl 40 V.toArray (0, 0) _ R1.out Tryd.underlying40 rfl hzV.out ?_)
      | (go_at_call 25; refine (hck.out _ hb1).mono ?_; rintro e w2 ⟨rfl, hq⟩; have r2 := r2.later hq r2.lt; have hb2 := hb1.trans (hq.mono hb1.size); have Q2 := Lib.hid (show w2.heap[w.heap.size + 1]? = some (.cells Z.toArray 40 (0, 0)) from r2); clear hq)
      | (have _t := Q2; refine wpList_store_row rfl 40 (.tmp 2) (.tmp 12) rfl (w.heap.size + 1) Z.toArray rfl (by rw [hZe.out]; rfl) 40 Z.toArray Q2.out hzZ.out rfl hZ1.out ?_; refine Hid.out ?_))
    refine Lib.hid ?_
    generalize hw8 : World.setRow _ _ _ = w8
    obtain ⟨r8, hg8⟩ := row_set (show Row w2 (w.heap.size + 1) 40 Z from Q2.out) hw8
    have hb8 := hb2.grown hg8 hb2.size (fun k h => by cases h; omega)
    have R8 := Lib.hid (show w8.heap[w.heap.size + 1]? = some (.cells Z.toArray 40 (0, 0)) from r8)
    clear hw8 r8 Q2
    go_wp2_with fail
    exact ⟨rfl, _, results_row_tmp rfl _ _ (w.heap.size + 1) 40 Z.toArray (0, 0) _ rfl R8.out Tryd.underlying40 rfl hzZ.out _ rfl, .agg Z.toArray, rfl, by rw [HZ.out]; exact BunV.zero 0 w8, hb8⟩
  | true =>
    have e1 : errAll b = 0 := hE.trans (if_pos rfl)
    have e2 : allB b = ⟨b.root, (toks ds0).map (eachD b.root.tag)⟩ := hG.trans (if_pos rfl)
    rw [e1, e2]
    have HP := Lib.hid (fun w' (hq : Below w.heap.size w w') => hp.later (Nat.le_refl _) hq)
    have hp1 := hp.later (Nat.le_refl _) hb1
    have HCV := Lib.hid (show ∀ e ∈ ds0, ∀ a, 0 < e.1.cavs.length → e.2.1 = some a → a.block < w.heap.size from fun e he a h0 ha => (hp.each e he).block_lt (by rw [length_cavsV]; omega) ha)
    clear hE hG e1 e2
    go_enter Tryd.func17, Tryd.ntmps17
    go_upto_region 5 with (first
      | (have _t := tok1; rw [← HW.out]; clear tok1)
      | (with_reducible refine wpList_load_row rfl 40 (.tmp 1) rfl w.heap.size rfl 40 V.toArray (0, 0) _ R1.out Tryd.underlying40 rfl hzV.out ?_)
      | (go_at_call 25; refine (hck.out _ hb1).mono ?_; rintro e w2 ⟨rfl, hq⟩; have r1 := r1.later hq r1.lt; have r2 := r2.later hq r2.lt; have hb2 := hb1.trans (hq.mono hb1.size); have R12 := Lib.hid r1; have R22 := Lib.hid r2; clear hq)
      | (refine wpList_zeroT rfl rfl ?_; intro v4 w4 hl4 hq; have r1 := r1.later hq r1.lt; have r2 := r2.later hq r2.lt; have hb4 := hb2.trans (hq.mono hb2.size); have hcg : w4.cell? ⟨w.heap.size, 36, none⟩ = some (.slice B ds0.length d) := row_bun_dis hr (HV.out ▸ r1)))
    clear hck R1 r1 r2 hb4 hb1 hcg hp1 h
    have hl4 := hl4 0 (w.heap.size + 1)
    obtain ⟨i0, hi, hz0, hz1, hz2⟩ := info_tok
    have r12 := R12.out
    have r22 := R22.out
    clear R12 R22
    have hL1 := Lib.hid (show w.heap.size < w2.heap.size from r12.lt)
    have hL2 := Lib.hid (show w.heap.size + 1 < w2.heap.size from r22.lt)
    go_loopw [17, 4] (fun i l wr => ∃ k : Nat, k ≤ ds0.length ∧ i = .int .i64 k ∧ TokL wr 0 (w.heap.size + 1) w2.heap.size l (((toks ds0).take k).map (eachD b.root.tag)) ∧ Below w2.heap.size w2 wr) (fun i _ _ => ds0.length - (intOf i).toNat)
    case atStart => exact ⟨0, by omega, rfl, hl4, hq⟩
    case round =>
      clear hl4 hq
      obtain ⟨k, hk, rfl, hl, hgr⟩ := hrel
      have hbw : Below w.heap.size w wr := hb2.trans (hgr.mono hb2.size)
      have r1 := r12.later hgr hL1.out
      have r2 := r22.later hgr hL2.out
      have hlr := Lib.hid (show w2.heap.size ≤ wr.heap.size from hgr.size)
      by_cases hlt : k < ds0.length
      · obtain ⟨dd, hdd⟩ : ∃ dd, ds0[k]? = some dd := ⟨_, List.getElem?_eq_getElem hlt⟩
        have hpr := HP.out wr hbw
        obtain ⟨bb, oo, rfl⟩ := hp.nonil hok hlt
        have hix := index_tok (some ⟨bb, oo, none⟩) bb oo ds0.length d k rfl hlt
        have hmem := List.mem_of_getElem? hdd
        have hme : dd.1 ∈ toks ds0 := List.mem_map_of_mem hmem
        have hrg := hpr.sl.thing (k := 36) (dis_ok hok) k dd hdd
        have hud := hok _ hme
        have hsd := hpr.each dd hmem
        have hbi := Lib.hid (fun w' h => rbind21_any b.root.tag hr.tag dd.1 hud (hmd _ hme) dd.2.1 dd.2.2 w' h)
        unfold GaveTok at hbi
        have HM := Lib.hid (show ((toks ds0).take (k + 1)).map (eachD b.root.tag) = ((toks ds0).take k).map (eachD b.root.tag) ++ [eachD b.root.tag dd.1] by rw [List.take_add_one, toks_get hdd, List.map_append]; rfl)
        have HCD := Lib.hid (HCV.out dd hmem)
        have hlV := length_disV hud
        have hofn : ∀ v ∈ disV dd, v.oneCell' = true := fun v hv => disV_one [dd] v (by simpa using hv)
        have hUd := Lib.hid hud
        have htz := Lib.hid (show (Tryd.prog.info? 23).map (·.size) = some (byts b.root.tag).length by rw [size_tag, tag_fit _ hr.tag])
        have hml : (((toks ds0).take k).map (eachD b.root.tag)).length ≤ 1000000 := by rw [List.length_map, List.length_take, toks_len]; omega
        generalize ((toks ds0).take k).map (eachD b.root.tag) = ms at *
        obtain ⟨V2, hV2q⟩ : ∃ V, V = disV dd := ⟨_, rfl⟩
        rw [← hV2q] at hlV hrg hofn
        rw [show tokV dd.1 dd.2.1 dd.2.2 = V2 from hV2q.symm] at hbi
        have HV2 := Lib.hid hV2q
        have hzf := Lib.hid (show (Tryd.prog.info? 27).map (·.size) = some V2.length by rw [size_tok, hlV])
        have hzf2 := Lib.hid (show (Tryd.prog.info? 27).map (·.size) = some V2.toArray.size by rw [size_tok, List.size_toArray, hlV])
        have hof := Lib.hid (all_one hofn)
        have all_one_of := Lib.hid hofn
        have hV2 := Lib.hid (show (36 : Nat) = V2.toArray.size by rw [List.size_toArray, hlV])
        have HlV2 := Lib.hid hlV
        clear hV2q hdd hpr hlV hofn hme hmem hok hmd hp HP hud hs hVl hZl
        go_upto_region 7 with (first
          | (with_reducible refine wpList_load_mid rfl 27 (.tmp 19) rfl bb (oo + k * 36) rfl V2 _ hrg Tryd.underlying27 rfl hzf.out ?_)
          | (with_reducible refine wpList_store_row rfl 27 (.tmp 6) (.tmp 20) rfl wr.heap.size V2.toArray rfl rfl 27 _ (heap_alloc_new wr _) hzf2.out (Eq.trans (by kernel_rfl) hV2.out) hof.out ?_))
        generalize hw7 : World.setRow _ _ _ = w7
        obtain ⟨r7, hb7⟩ := row_new_set (xs := V2) hw7
        have hl := hl.later hb7
        have hgr := hgr.trans (hb7.mono hgr.size)
        have hsd := hsd.later (Nat.le_refl _) hb7
        have r1 := r1.later hb7 r1.lt
        have KT := Lib.hid (bun_tag_range (HV.out ▸ r1))
        have R7 := Lib.hid (show w7.heap[wr.heap.size]? = some (.cells V2.toArray 27 (0, 0)) from r7)
        clear hw7 hb7 hrg hix r1 r2
        cases hbd : dd.1.bound with
        | true =>
          have hEe := Lib.hid (show eachD b.root.tag dd.1 = dd.1 by unfold eachD; rw [if_pos hbd])
          rw [show errBind dd.1 = 6 by unfold errBind; rw [if_pos hbd], show bindT b.root.tag dd.1 = zeroK by unfold bindT; rw [if_pos hbd]] at hbi
          have hUB := Lib.hid zeroK_ok
          obtain ⟨UB, hUBe⟩ : ∃ U, U = zeroK := ⟨_, rfl⟩
          rw [← hUBe] at hbi hUB
          clear hUBe hbd
          go_upto_region 8 with (first
            | (with_reducible refine wpList_load_mid rfl 23 (.tmp 23) rfl w.heap.size 4 rfl (byts b.root.tag) _ KT.out Tryd.underlying23 rfl htz.out ?_)
            | (with_reducible refine wpList_load_row rfl 27 (.tmp 6) rfl wr.heap.size rfl 27 V2.toArray (0, 0) _ R7.out Tryd.underlying27 rfl hzf2.out ?_)
            | (go_at_call 9; refine (hbi.out w7 hsd).mono ?_; rintro e w8 ⟨A8, c8, rfl, s8, hf8, hq8⟩; have R7 := Lib.hid (show w8.heap[wr.heap.size]? = some (.cells V2.toArray 27 (0, 0)) from Row.later (show Row w7 wr.heap.size 27 V2 from R7.out) hq8 (show Row w7 wr.heap.size 27 V2 from R7.out).lt); have hlV8 := length_tokV hUB.out A8 c8; have hon8 := tokV_one UB A8 c8; obtain ⟨V8, hV8q⟩ : ∃ V, V = tokV UB A8 c8 := ⟨_, rfl⟩; rw [← hV8q] at hlV8 hon8 ⊢; have HV8 := Lib.hid hV8q; have HlV8 := Lib.hid hlV8; have hzf8 := Lib.hid (show (Tryd.prog.info? 27).map (·.size) = some V8.toArray.size by rw [size_tok, List.size_toArray, hlV8]); have hV8 := Lib.hid (show (36 : Nat) = V8.toArray.size by rw [List.size_toArray, hlV8]); have hof8 := Lib.hid (all_one hon8); have hon8 := Lib.hid hon8; have hf8 := Lib.hid hf8; have H78 := Lib.hid (show w7.heap.size ≤ w8.heap.size from hq8.size); clear hV8q hlV8)
            | (with_reducible refine wpList_store_row rfl 27 (.tmp 7) (.tmp 27) rfl w8.heap.size V8.toArray rfl rfl 27 _ (heap_alloc_new w8 _) hzf8.out (Eq.trans (by kernel_rfl) hV8.out) hof8.out ?_))
          generalize hw9 : World.setRow _ _ _ = w9
          obtain ⟨r9, hb9⟩ := row_new_set (xs := V8) hw9
          have hq9 := hq8.trans (hb9.mono hq8.size)
          have R9 := Lib.hid (show w9.heap[w8.heap.size]? = some (.cells V8.toArray 27 (0, 0)) from r9)
          have R7 := Lib.hid (show w9.heap[wr.heap.size]? = some (.cells V2.toArray 27 (0, 0)) from Row.later (show Row w8 wr.heap.size 27 V2 from R7.out) hb9 (show Row w8 wr.heap.size 27 V2 from R7.out).lt)
          clear hw9 r9 KT hbi
          go_upto_region 10 with (first
            | (with_reducible refine wpList_load_row rfl 27 (.tmp 6) rfl wr.heap.size rfl 27 V2.toArray (0, 0) _ R7.out Tryd.underlying27 rfl hzf2.out ?_)
            | (with_reducible refine wpList_store_row rfl 27 (.tmp 7) (.tmp 31) rfl w8.heap.size V2.toArray rfl rfl 27 V8.toArray R9.out hzf2.out (Eq.trans hV8.out.symm hV2.out) hof.out ?_))
          generalize hw10 : World.setRow _ _ _ = w10
          obtain ⟨r10, hg10⟩ := row_set (xs := V2) (show Row w9 w8.heap.size 27 V8 from R9.out) hw10
          have hq10 := hq9.grown hg10 hq9.size (fun k h => by cases h; exact H78.out)
          have R10 := Lib.hid (show w10.heap[w8.heap.size]? = some (.cells V2.toArray 27 (0, 0)) from r10)
          have hddc : Cvs w10 dd := hsd.later (Nat.le_refl _) hq10
          have hdda : ∀ B9, (∀ p, B9 = some p → w2.heap.size ≤ p.block ∧ p.block < w7.heap.size) → Apart 0 (w.heap.size + 1) B9 dd := fun B9 hB9 h0 a ha => ⟨Nat.zero_le _, by have := HCD.out a h0 ha; omega, fun p hp => by have := HCD.out a h0 ha; have := (hB9 p hp).1; have := hL1.out; omega⟩
          have HX : dd.1 = eachD b.root.tag dd.1 := hEe.out.symm
          clear hw10 r10 hg10 hq9 R9 R7 s8 hf8
          have hBp := Lib.hid hl.row
          have hlW := hl.later hq10
          have hgr := hgr.trans (hq10.mono hgr.size)
          obtain ⟨B9, d9, ds, rfl, hds, own, hcv⟩ := hlW
          have hbo := Lib.hid (build_one V2 HlV2.out)
          have hdd := hdda B9 (fun p hp => hBp.out p.block (by rw [hp]; rfl))
          have HDS := Lib.hid hds
          have HXX := Lib.hid HX
          have hnn : ds.length ≤ 1000000 := by rw [← toks_len ds, hds]; exact hml
          have n1 : ds.length + 1 ≤ maxLen := by unfold maxLen; omega
          have n2 : (ds.length + 1) * 88 ≤ 140737488355328 := by omega
          clear hds HX hdda hl hnn hml
          go_wp2_with (first
            | (with_reducible refine wpList_load_row rfl 27 (.tmp 7) rfl w8.heap.size rfl 27 V2.toArray (0, 0) _ R10.out Tryd.underlying27 rfl hzf2.out ?_)
            | (refine wpList_slice1 rfl 38 1 0 (.tmp 33) rfl (.agg V2.toArray) _ rfl (hbo.out _) ?_; have hba := (Below.refl w10.heap.size w10).alloc (Nat.le_refl _) (.cells V2.toArray 27); have hlx := tok_sl w10 V2; rw [HlV2.out] at hlx; have own := ownk_later own hba (Nat.le_refl _); have hcv : ∀ e ∈ ds, Cvs (w10.alloc (.cells V2.toArray 27)) e ∧ Apart 0 (w.heap.size + 1) B9 e := (fun e he => ⟨(hcv e he).1.later (Nat.le_refl _) hba, (hcv e he).2⟩); have hdx : Cvs (w10.alloc (.cells V2.toArray 27)) dd ∧ Apart 0 (w.heap.size + 1) B9 dd := ⟨hddc.later (Nat.le_refl _) hba, hdd⟩; have hgr := hgr.trans (hba.mono hgr.size); have hszb := Lib.hid hgr.size)
            | (at_builtin; refine wpList_append_one rfl (.tmp 32) (.tmp 34) 38 rfl w2.heap.size 27 i0 _ 36 88 Tryd.underlying38 hi hz0 hz1 (by omega) hz2 rfl _ ds.length (ds.flatMap disV) rfl own ⟨w10.heap.size, 0, none⟩ 1 V2 rfl HlV2.out (by rw [Nat.one_mul]; exact hlx) (fun v hv => all_one_of.out v hv) n1 n2 hszb.out ?_; intro v11 w11 own11 hg11 hnew11; have hl11 := tokL_append hcv hdx (by rw [HV2.out] at own11; exact own11) hg11 hnew11; have hgr11 := hgr.grown hg11 hgr.size (fun k hk => (own.lt k hk).1)))
          have hl12 : TokL w11 0 (w.heap.size + 1) w2.heap.size v11 (((toks ds0).take (k + 1)).map (eachD b.root.tag)) := by
            rw [HM.out, ← HDS.out, ← HXX.out]; exact hl11
          clear hl11 own11 hg11 hnew11 hdx hcv own
          go_roundw
          case rel => exact ⟨k + 1, by omega, by go_num, hl12, hgr11⟩
          case measure => simp [intOf]; omega
        | false =>
          have hEe := Lib.hid (show eachD b.root.tag dd.1 = boundT b.root.tag dd.1 by unfold eachD; rw [if_neg (by rw [hbd]; decide)])
          rw [show errBind dd.1 = 0 by unfold errBind; rw [if_neg (by rw [hbd]; decide)], show bindT b.root.tag dd.1 = boundT b.root.tag dd.1 by unfold bindT; rw [if_neg (by rw [hbd]; decide)]] at hbi
          have hUB := Lib.hid (boundT_ok b.root.tag hUd.out)
          obtain ⟨UB, hUBe⟩ : ∃ U, U = boundT b.root.tag dd.1 := ⟨_, rfl⟩
          rw [← hUBe] at hbi hUB hEe
          clear hUBe hbd
          go_upto_region 8 with (first
            | (with_reducible refine wpList_load_mid rfl 23 (.tmp 23) rfl w.heap.size 4 rfl (byts b.root.tag) _ KT.out Tryd.underlying23 rfl htz.out ?_)
            | (with_reducible refine wpList_load_row rfl 27 (.tmp 6) rfl wr.heap.size rfl 27 V2.toArray (0, 0) _ R7.out Tryd.underlying27 rfl hzf2.out ?_)
            | (go_at_call 9; refine (hbi.out w7 hsd).mono ?_; rintro e w8 ⟨A8, c8, rfl, s8, hf8, hq8⟩; have R7 := Lib.hid (show w8.heap[wr.heap.size]? = some (.cells V2.toArray 27 (0, 0)) from Row.later (show Row w7 wr.heap.size 27 V2 from R7.out) hq8 (show Row w7 wr.heap.size 27 V2 from R7.out).lt); have hlV8 := length_tokV hUB.out A8 c8; have hon8 := tokV_one UB A8 c8; obtain ⟨V8, hV8q⟩ : ∃ V, V = tokV UB A8 c8 := ⟨_, rfl⟩; rw [← hV8q] at hlV8 hon8 ⊢; have HV8 := Lib.hid hV8q; have HlV8 := Lib.hid hlV8; have hzf8 := Lib.hid (show (Tryd.prog.info? 27).map (·.size) = some V8.toArray.size by rw [size_tok, List.size_toArray, hlV8]); have hV8 := Lib.hid (show (36 : Nat) = V8.toArray.size by rw [List.size_toArray, hlV8]); have hof8 := Lib.hid (all_one hon8); have hon8 := Lib.hid hon8; have hf8 := Lib.hid hf8; have H78 := Lib.hid (show w7.heap.size ≤ w8.heap.size from hq8.size); clear hV8q hlV8)
            | (with_reducible refine wpList_store_row rfl 27 (.tmp 7) (.tmp 27) rfl w8.heap.size V8.toArray rfl rfl 27 _ (heap_alloc_new w8 _) hzf8.out (Eq.trans (by kernel_rfl) hV8.out) hof8.out ?_))
          generalize hw9 : World.setRow _ _ _ = w9
          obtain ⟨r9, hb9⟩ := row_new_set (xs := V8) hw9
          have hq9 := hq8.trans (hb9.mono hq8.size)
          have R9 := Lib.hid (show w9.heap[w8.heap.size]? = some (.cells V8.toArray 27 (0, 0)) from r9)
          have R7 := Lib.hid (show w9.heap[wr.heap.size]? = some (.cells V2.toArray 27 (0, 0)) from Row.later (show Row w8 wr.heap.size 27 V2 from R7.out) hb9 (show Row w8 wr.heap.size 27 V2 from R7.out).lt)
          clear hw9 r9 KT hbi
          have hddc : Cvs w9 (UB, A8, c8) := s8.later (Nat.le_refl _) hb9
          have hdda : ∀ B9, (∀ p, B9 = some p → w2.heap.size ≤ p.block ∧ p.block < w7.heap.size) → Apart 0 (w.heap.size + 1) B9 (UB, A8, c8) := fun B9 hB9 h0 a ha => ⟨Nat.zero_le _, by have := hf8.out a ha; have := hgr.size; have := hL2.out; omega, fun p hp => by have := hf8.out a ha; have := (hB9 p hp).2; omega⟩
          have HX : UB = eachD b.root.tag dd.1 := hEe.out.symm
          clear R7 s8 hf8
          have hBp := Lib.hid hl.row
          have hlW := hl.later hq9
          have hgr := hgr.trans (hq9.mono hgr.size)
          obtain ⟨B9, d9, ds, rfl, hds, own, hcv⟩ := hlW
          have hbo := Lib.hid (build_one V8 HlV8.out)
          have hdd := hdda B9 (fun p hp => hBp.out p.block (by rw [hp]; rfl))
          have HDS := Lib.hid hds
          have HXX := Lib.hid HX
          have hnn : ds.length ≤ 1000000 := by rw [← toks_len ds, hds]; exact hml
          have n1 : ds.length + 1 ≤ maxLen := by unfold maxLen; omega
          have n2 : (ds.length + 1) * 88 ≤ 140737488355328 := by omega
          clear hds HX hdda hl hnn hml
          go_wp2_with (first
            | (with_reducible refine wpList_load_row rfl 27 (.tmp 7) rfl w8.heap.size rfl 27 V8.toArray (0, 0) _ R9.out Tryd.underlying27 rfl hzf8.out ?_)
            | (refine wpList_slice1 rfl 38 1 0 (.tmp 33) rfl (.agg V8.toArray) _ rfl (hbo.out _) ?_; have hba := (Below.refl w9.heap.size w9).alloc (Nat.le_refl _) (.cells V8.toArray 27); have hlx := tok_sl w9 V8; rw [HlV8.out] at hlx; have own := ownk_later own hba (Nat.le_refl _); have hcv : ∀ e ∈ ds, Cvs (w9.alloc (.cells V8.toArray 27)) e ∧ Apart 0 (w.heap.size + 1) B9 e := (fun e he => ⟨(hcv e he).1.later (Nat.le_refl _) hba, (hcv e he).2⟩); have hdx : Cvs (w9.alloc (.cells V8.toArray 27)) (UB, A8, c8) ∧ Apart 0 (w.heap.size + 1) B9 (UB, A8, c8) := ⟨hddc.later (Nat.le_refl _) hba, hdd⟩; have hgr := hgr.trans (hba.mono hgr.size); have hszb := Lib.hid hgr.size)
            | (at_builtin; refine wpList_append_one rfl (.tmp 32) (.tmp 34) 38 rfl w2.heap.size 27 i0 _ 36 88 Tryd.underlying38 hi hz0 hz1 (by omega) hz2 rfl _ ds.length (ds.flatMap disV) rfl own ⟨w9.heap.size, 0, none⟩ 1 V8 rfl HlV8.out (by rw [Nat.one_mul]; exact hlx) hon8.out n1 n2 hszb.out ?_; intro v11 w11 own11 hg11 hnew11; have hl11 := tokL_append hcv hdx (by rw [HV8.out] at own11; exact own11) hg11 hnew11; have hgr11 := hgr.grown hg11 hgr.size (fun k hk => (own.lt k hk).1)))
          have hl12 : TokL w11 0 (w.heap.size + 1) w2.heap.size v11 (((toks ds0).take (k + 1)).map (eachD b.root.tag)) := by
            rw [HM.out, ← HDS.out, ← HXX.out]; exact hl11
          clear hl11 own11 hg11 hnew11 hdx hcv own
          go_roundw
          case rel => exact ⟨k + 1, by omega, by go_num, hl12, hgr11⟩
          case measure => simp [intOf]; omega
      · obtain rfl : k = ds0.length := by omega
        rw [← toks_len ds0, List.take_length] at hl
        have hsr := hs.later (Nat.le_refl _) hbw
        have hlT := length_tokV hr A c
        have KR := Lib.hid (row_bun_tok (HV.out ▸ r1))
        have Q2 := Lib.hid (show wr.heap[w.heap.size + 1]? = some (.cells Z.toArray 40 (0, 0)) from r2)
        have HL := Lib.hid hl
        obtain ⟨B9, d9, ds, rfl, hds, -⟩ := hl
        obtain ⟨VT, hVT⟩ : ∃ V, V = tokV b.root A c := ⟨_, rfl⟩
        rw [← hVT] at KR hlT
        have hzT := Lib.hid (show (Tryd.prog.info? 27).map (·.size) = some VT.length by rw [size_tok, hlT])
        have hbd := Lib.hid (build_bun2 VT hlT B9 ds.length d9)
        obtain ⟨VB, hVB⟩ : ∃ V, V = VT ++ [Value.slice B9 ds.length d9] := ⟨_, rfl⟩
        rw [← hVB] at hbd
        have hlB : VB.length = 37 := by rw [hVB, List.length_append, hlT]; rfl
        have hzB := Lib.hid (show (Tryd.prog.info? 40).map (·.size) = some VB.toArray.size by rw [size_bun, List.size_toArray, hlB])
        have hZB := Lib.hid (show Z.toArray.size = VB.toArray.size by rw [List.size_toArray, List.size_toArray, hZl, hlB])
        have HVB := Lib.hid (show VB = bunV b.root A c B9 ds.length d9 by rw [hVB, hVT]; rfl)
        have hoB := Lib.hid (show VB.toArray.all (·.oneCell') = true by rw [HVB.out, List.all_toArray, List.all_eq_true]; exact bunV_one _ _ _ _ _ _)
        have hnk : ¬ ds0.length < ds0.length := Nat.lt_irrefl _
        clear hVT hVB hlB hlT r1 hds hlt hk
        generalize ds0.length = n at *
        go_wp2_with (first
          | (with_reducible refine wpList_load_mid rfl 27 (.tmp 37) rfl w.heap.size 0 rfl VT _ KR.out Tryd.underlying27 rfl hzT.out ?_)
          | (refine wpList_build2 rfl 40 0 1 (.tmp 38) (.tmp 39) rfl (.agg VT.toArray) (.slice B9 ds.length d9) (.agg VB.toArray) rfl rfl (hbd.out _) ?_)
          | (have _t := Q2; refine wpList_store_row rfl 40 (.tmp 2) (.tmp 40) rfl (w.heap.size + 1) VB.toArray rfl rfl 40 Z.toArray Q2.out hzB.out hZB.out hoB.out ?_; refine Hid.out ?_))
        refine Lib.hid ?_
        generalize hw8 : World.setRow _ _ _ = w8
        obtain ⟨r8, hg8⟩ := row_set (show Row wr (w.heap.size + 1) 40 Z from Q2.out) hw8
        have hb8 := hbw.grown hg8 hbw.size (fun k h => by cases h; omega)
        have R8 := Lib.hid (show w8.heap[w.heap.size + 1]? = some (.cells VB.toArray 40 (0, 0)) from r8)
        have hl8 := HL.out.set hg8 hL2.out
        obtain ⟨B', n', d', hBe, hbun⟩ := hl8.bun (Nat.zero_le _) b.root A c (hs.later (Nat.le_refl _) hb8) (fun _ _ _ => Nat.zero_le _)
        injection hBe with q1 q2 q3
        subst q1 q2 q3
        have HBU := Lib.hid hbun
        clear hw8 r8 Q2 hl8 hbun HL
        go_wp2_with fail
        exact ⟨rfl, _, results_row_tmp rfl _ _ (w.heap.size + 1) 40 VB.toArray (0, 0) _ rfl R8.out Tryd.underlying40 rfl hzB.out _ rfl, .agg VB.toArray, rfl, by rw [HVB.out]; exact HBU.out, hb8⟩
end Go.Proofs.YtnkkgclmmaakgaaDoor

/- LAYER 21: package bind by the names that the laws' walks use. -/
namespace Go.Proofs.YtnkkgclmmaakgaaDoor
set_option maxRecDepth 100000
open Go Go.RowKit

theorem bbind21_any (root : List UInt8) (hk : root.length = 32) (t : Tok) (ht : t.Ok) (hm : t.cavs.length ≤ 1000000) (A : Option Addr) (c : Nat) (w : World) (hT : Tabs w) (hs : Sl w A (c * 5) (t.cavs.flatMap cavV)) :
    Calls Tryd.prog 8 #[.agg (byts root).toArray, .agg (tokV t A c).toArray] w (GaveTok (bindT root t) (errBind t) w) := bbind_T root hk t ht hm A c w hT hs
theorem bfits21_any (root : List UInt8) (hk : root.length = 32) (en : List UInt8) (hen : en.length = 32) (t : Tok) (ht : t.Ok) (A : Option Addr) (c : Nat) (w : World) (hT : Tabs w) :
    Calls Tryd.prog 13 #[.agg (byts root).toArray, .agg (byts en).toArray, .agg (tokV t A c).toArray] w fun e w' => e = .returned (.bool (fitsT root en t)) ∧ Below w.heap.size w w' := bfits_T root hk en hen t ht A c w hT
end Go.Proofs.YtnkkgclmmaakgaaDoor

/- LAYER 21: bindAlive. -/
namespace Go.Proofs.YtnkkgclmmaakgaaDoor
set_option maxRecDepth 100000
open Go Go.RowKit

def tagA (x : UInt8) : List UInt8 := x :: List.replicate 31 0
def dA : Tok := ⟨0, [], [], false, tagA 2⟩
theorem dA_ok : dA.Ok := ⟨by decide, (fun _ h => by cases h), rfl⟩
theorem bind_differ : decide (bindG (tagA 1) (tagA 2) = bindG (tagA 3) (tagA 2)) = false := by decide +kernel
theorem build_tag1 (w : World) : (Instr.build 23 #[(0, .int .u8 1)]).run Tryd.prog w = .ok (.agg (byts (tagA 1)).toArray) w := by go_simp; rfl
theorem build_tag2 (w : World) : (Instr.build 23 #[(0, .int .u8 2)]).run Tryd.prog w = .ok (.agg (byts (tagA 2)).toArray) w := by go_simp; rfl
theorem lit_tag3 : (byts (tagA 3)).toArray = (#[.int .u8 3, .int .u8 0, .int .u8 0, .int .u8 0, .int .u8 0, .int .u8 0, .int .u8 0, .int .u8 0, .int .u8 0, .int .u8 0, .int .u8 0, .int .u8 0, .int .u8 0, .int .u8 0, .int .u8 0, .int .u8 0, .int .u8 0, .int .u8 0, .int .u8 0, .int .u8 0, .int .u8 0, .int .u8 0, .int .u8 0, .int .u8 0, .int .u8 0, .int .u8 0, .int .u8 0, .int .u8 0, .int .u8 0, .int .u8 0, .int .u8 0, .int .u8 0] : Array Value) := rfl
theorem build_dA (w : World) : (Instr.build 27 #[(4, .agg (byts (tagA 2)).toArray)]).run Tryd.prog w = .ok (.agg (tokV dA none 0).toArray) w := by go_simp; rfl
theorem alloc2_old (w : World) (a b : Array Value) (t u : TypeId) : ((w.alloc (.cells a t)).alloc (.cells b u)).heap[w.heap.size]? = some (.cells a t (0, 0)) := by
  have h := (two_rows19 (w := w) (A := a.toList) (B := b.toList) (t := t) (u := u) rfl).1
  unfold Row at h; simpa using h
theorem fits_alive : fitsT (tagA 1) (tagA 2) (boundT (tagA 1) dA) = true := by
  exact (if_pos (show (boundT (tagA 1) dA).bound = true from rfl)).trans (decide_eq_true rfl)
theorem fits_alive3 : fitsT (tagA 3) (tagA 2) (boundT (tagA 1) dA) = false := by
  exact (if_pos (show (boundT (tagA 1) dA).bound = true from rfl)).trans bind_differ
set_option maxHeartbeats 8000000 in
theorem balive21_any (w : World) (hT : Tabs w) : Calls Tryd.prog 6 #[] w fun e w' => e = .returned (.bool true) ∧ Below w.heap.size w w' := by
  obtain ⟨R1, hR1⟩ : ∃ R, R = byts (tagA 1) := ⟨_, rfl⟩
  obtain ⟨R2, hR2⟩ : ∃ R, R = byts (tagA 2) := ⟨_, rfl⟩
  obtain ⟨D, hD⟩ : ∃ D, D = tokV dA none 0 := ⟨_, rfl⟩
  have h1l : R1.length = 32 := by rw [hR1]; rfl
  have h2l : R2.length = 32 := by rw [hR2]; rfl
  have hDl : D.length = 36 := by rw [hD]; exact length_tokV dA_ok none 0
  have hz1 := Lib.hid (show (Tryd.prog.info? 23).map (·.size) = some R1.toArray.size by rw [List.size_toArray, h1l]; exact size_tag)
  have hz2 := Lib.hid (show (Tryd.prog.info? 23).map (·.size) = some R2.length by rw [h2l]; exact size_tag)
  have hy1 := Lib.hid (show (Tryd.prog.info? 23).map (·.size) = some R1.length by rw [h1l]; exact size_tag)
  have hzD := Lib.hid (show (Tryd.prog.info? 27).map (·.size) = some D.toArray.size by rw [List.size_toArray, hDl]; exact size_tok)
  have h32 := Lib.hid (show 32 = R1.toArray.size by rw [List.size_toArray, h1l])
  have h36 := Lib.hid (show 36 = D.toArray.size by rw [List.size_toArray, hDl])
  have ho1 := Lib.hid (show R1.toArray.all (·.oneCell') = true by rw [hR1]; exact all_one (byts_one _))
  have hoD := Lib.hid (show D.toArray.all (·.oneCell') = true by rw [hD, List.all_toArray, List.all_eq_true]; exact tokV_one _ _ _)
  have hb1 := Lib.hid (show ∀ w, (Instr.build 23 #[(0, .int .u8 1)]).run Tryd.prog w = .ok (.agg R1.toArray) w by rw [hR1]; exact build_tag1)
  have hb2 := Lib.hid (show ∀ w, (Instr.build 23 #[(0, .int .u8 2)]).run Tryd.prog w = .ok (.agg R2.toArray) w by rw [hR2]; exact build_tag2)
  have hbD := Lib.hid (show ∀ w, (Instr.build 27 #[(4, .agg R2.toArray)]).run Tryd.prog w = .ok (.agg D.toArray) w by rw [hR2, hD]; exact build_dA)
  have hUo : (boundT (tagA 1) dA).Ok := boundT_ok _ dA_ok
  obtain ⟨U, hU⟩ : ∃ U, U = boundT (tagA 1) dA := ⟨_, rfl⟩
  have hbi := Lib.hid (show ∀ w', Tabs w' → Calls Tryd.prog 8 #[.agg R1.toArray, .agg D.toArray] w' (GaveTok U 0 w') by
    rw [hR1, hD, hU]; exact fun w' h => bbind21_any (tagA 1) rfl dA dA_ok (by decide) none 0 w' h (sl_zeroK w'))
  have hf1 := Lib.hid (show ∀ B d w', Tabs w' → Calls Tryd.prog 13 #[.agg R1.toArray, .agg R2.toArray, .agg (tokV U B d).toArray] w' fun e w'' => e = .returned (.bool true) ∧ Below w'.heap.size w' w'' by
    rw [hR1, hR2, hU, ← fits_alive]; exact fun B d w' h => bfits21_any (tagA 1) rfl (tagA 2) rfl _ hUo B d w' h)
  have hf3 := Lib.hid (show ∀ B d w', Tabs w' → Calls Tryd.prog 13 #[.agg #[.int .u8 3, .int .u8 0, .int .u8 0, .int .u8 0, .int .u8 0, .int .u8 0, .int .u8 0, .int .u8 0, .int .u8 0, .int .u8 0, .int .u8 0, .int .u8 0, .int .u8 0, .int .u8 0, .int .u8 0, .int .u8 0, .int .u8 0, .int .u8 0, .int .u8 0, .int .u8 0, .int .u8 0, .int .u8 0, .int .u8 0, .int .u8 0, .int .u8 0, .int .u8 0, .int .u8 0, .int .u8 0, .int .u8 0, .int .u8 0, .int .u8 0, .int .u8 0], .agg R2.toArray, .agg (tokV U B d).toArray] w' fun e w'' => e = .returned (.bool false) ∧ Below w'.heap.size w' w'' by
    rw [← lit_tag3, hR2, hU, ← fits_alive3]; exact fun B d w' h => bfits21_any (tagA 3) rfl (tagA 2) rfl _ hUo B d w' h)
  rw [← hU] at hUo
  have hUb : U.bound = true := by rw [hU]; rfl
  have HD := Lib.hid hD
  have HR2 := Lib.hid hR2
  unfold GaveTok at hbi
  clear hR1 hR2 hD hU h1l h2l hDl
  go_enter Tryd.func6, Tryd.ntmps6
  go_wp2_with (first
    | (refine wpList_build1B rfl 23 0 _ rfl (.int .u8 1) (.agg R1.toArray) rfl (hb1.out _) ?_)
    | (refine wpList_build1B rfl 23 0 _ rfl (.int .u8 2) (.agg R2.toArray) rfl (hb2.out _) ?_)
    | (refine wpList_build1B rfl 27 4 (.tmp 6) rfl (.agg R2.toArray) (.agg D.toArray) rfl (hbD.out _) ?_)
    | (have _t := h32; refine wpList_store_row rfl 23 (.tmp 1) (.tmp 5) rfl w.heap.size R1.toArray rfl rfl 23 _ (alloc2_old _ _ _ _ _) hz1.out (Eq.trans (by kernel_rfl) h32.out) ho1.out ?_; refine Hid.out ?_))
  refine Lib.hid ?_
  generalize hw2 : World.setRow _ _ _ = w2
  obtain ⟨q1, q2, hq⟩ := two_rows19 (w := w) (A := List.replicate 32 (Value.int .u8 0)) (B := tokV zeroK none 0) (t := 23) (u := 27) rfl
  obtain ⟨r1, hg2⟩ := row_set (xs := R1) q1 hw2
  have r2 := q2.grown hg2 (by omega)
  have hb4 := hq.grown hg2 hq.size (fun k h => by cases h; exact Nat.le_refl _)
  have Q2 := Lib.hid (show w2.heap[w.heap.size + 1]? = some (.cells (tokV zeroK none 0).toArray 27 (0, 0)) from r2)
  clear hw2 q1 q2 hq hg2
  go_wp2_with (have _t := Q2; refine wpList_store_row rfl 27 (.tmp 2) (.tmp 7) rfl (w.heap.size + 1) D.toArray rfl rfl 27 _ Q2.out hzD.out (Eq.trans (by kernel_rfl) h36.out) hoD.out ?_; refine Hid.out ?_)
  refine Lib.hid ?_
  generalize hw3 : World.setRow _ _ _ = w3
  obtain ⟨s2, hg3⟩ := row_set (xs := D) (show Row w2 (w.heap.size + 1) 27 (tokV zeroK none 0) from Q2.out) hw3
  have s1 := r1.grown hg3 (by omega)
  have hb5 := hb4.grown hg3 hb4.size (fun k h => by cases h; omega)
  have S1 := Lib.hid (show w3.heap[w.heap.size]? = some (.cells R1.toArray 23 (0, 0)) from s1)
  have S2 := Lib.hid (show w3.heap[w.heap.size + 1]? = some (.cells D.toArray 27 (0, 0)) from s2)
  clear hw3 hg3 r1 r2 hb4 Q2
  go_wp2_with (first
    | (with_reducible refine wpList_load_row rfl 23 (.tmp 1) rfl w.heap.size rfl 23 R1.toArray (0, 0) _ S1.out Tryd.underlying23 rfl hz1.out ?_)
    | (with_reducible refine wpList_load_row rfl 27 (.tmp 2) rfl (w.heap.size + 1) rfl 27 D.toArray (0, 0) _ S2.out Tryd.underlying27 rfl hzD.out ?_)
    | (go_at_call 8; refine (hbi.out _ (hT.later hb5 (Nat.le_refl _))).mono ?_; rintro e w4 ⟨B, d, rfl, s4, -, hq⟩; have s1 := s1.later hq s1.lt; have s2 := s2.later hq s2.lt; have hb6 := hb5.trans (hq.mono hb5.size); have hVl := length_tokV hUo B d; have hoV := tokV_one U B d; have hcb : (tokV U B d)[3]? = some (.bool true) := (congrArg (fun b => some (Value.bool b)) hUb); obtain ⟨V, hV⟩ : ∃ V, V = tokV U B d := ⟨_, rfl⟩; have hf1 := Lib.hid (hf1.out B d); have hf3 := Lib.hid (hf3.out B d); rw [← hV] at hVl hoV hcb hf1 hf3 ⊢; have hzV := Lib.hid (show (Tryd.prog.info? 27).map (·.size) = some V.toArray.size by rw [List.size_toArray, hVl]; exact size_tok); have hyV := Lib.hid (show (Tryd.prog.info? 27).map (·.size) = some V.length by rw [hVl]; exact size_tok); have hV36 := Lib.hid (show 36 = V.toArray.size by rw [List.size_toArray, hVl]); have hV1 := Lib.hid (show V.toArray.all (·.oneCell') = true by rw [List.all_toArray, List.all_eq_true]; exact hoV); have HCB := Lib.hid hcb; clear hq hV hVl hoV hcb)
    | (have _t := hV36; refine wpList_store_row rfl 27 (.tmp 3) (.tmp 12) rfl w4.heap.size V.toArray rfl rfl 27 _ (heap_alloc_new w4 _) hzV.out (Eq.trans (by kernel_rfl) hV36.out) hV1.out ?_; refine Hid.out ?_))
  refine Lib.hid ?_
  generalize hw5 : World.setRow _ _ _ = w5
  obtain ⟨s3, hq⟩ := row_new_set (xs := V) hw5
  have s1 := s1.later hq s1.lt
  have s2 := s2.later hq s2.lt
  have hb7 := hb6.trans (hq.mono hb6.size)
  have hc3 : w5.cell? ⟨w4.heap.size, 3, none⟩ = some (.bool true) := by rw [s3.cell]; exact HCB.out
  generalize w4.heap.size = g at *
  have hrt := Lib.hid (show w5.rangeAt (w.heap.size + 1) 4 R2 from by rw [HR2.out]; exact tok_tag_range (HD.out ▸ s2))
  clear hw5 hq S1 S2 hb6 hb5
  go_wp2_with (first
    | ((with_reducible refine wpList_step fun K hK => ?_); refine step_load_mid (some 21) rfl (by rfl) 23 (.tmp 1) rfl w.heap.size 0 rfl R1 _ (row_range s1) Tryd.underlying23 rfl hy1.out ?_; refine hK _ _ ?_; clear hK)
    | ((with_reducible refine wpList_step fun K hK => ?_); refine step_load_mid (some 23) rfl (by rfl) 23 (.tmp 22) rfl (w.heap.size + 1) 4 rfl R2 _ hrt.out Tryd.underlying23 rfl hz2.out ?_; refine hK _ _ ?_; clear hK)
    | ((with_reducible refine wpList_step fun K hK => ?_); refine step_load_mid (some 24) rfl (by rfl) 27 (.tmp 3) rfl g 0 rfl V _ (row_range s3) Tryd.underlying27 rfl hyV.out ?_; refine hK _ _ ?_; clear hK)
    | (go_at_call 13; refine (hf1.out _ (hT.later hb7 (Nat.le_refl _))).mono ?_; rintro e w6 ⟨rfl, hq⟩; have s2 := s2.later hq s2.lt; have s3 := s3.later hq s3.lt; have hb8 := hb7.trans (hq.mono hb7.size); have hrt := Lib.hid (show w6.rangeAt (w.heap.size + 1) 4 R2 from by rw [HR2.out]; exact tok_tag_range (HD.out ▸ s2)); clear hq; refine Hid.out ?_))
  refine Lib.hid ?_
  clear hf1 s1
  go_wp2_with (first
    | ((with_reducible refine wpList_step fun K hK => ?_); refine step_load_mid (some 30) rfl (by rfl) 23 (.tmp 29) rfl (w.heap.size + 1) 4 rfl R2 _ hrt.out Tryd.underlying23 rfl hz2.out ?_; refine hK _ _ ?_; clear hK)
    | ((with_reducible refine wpList_step fun K hK => ?_); refine step_load_mid (some 31) rfl (by rfl) 27 (.tmp 3) rfl g 0 rfl V _ (row_range s3) Tryd.underlying27 rfl hyV.out ?_; refine hK _ _ ?_; clear hK)
    | (go_at_call 13; refine (hf3.out _ (hT.later hb8 (Nat.le_refl _))).mono ?_; rintro e w7 ⟨rfl, hq⟩; have hb9 := hb8.trans (hq.mono hb8.size); clear hq))
  go_ret
  exact ⟨by first | rfl | simp, hb9⟩
end Go.Proofs.YtnkkgclmmaakgaaDoor

/- LAYER 10: the document's Same. -/
namespace Go.Proofs.YtnkkgclmmaakgaaDoor
set_option maxRecDepth 100000
open Go Go.RowKit

theorem tag_neq (xs ys : List UInt8) (hx : xs.length = 32) (hy : ys.length = 32) (w : World) : (Op.equalIn 10000 23 (.agg (byts xs).toArray) (.agg (byts ys).toArray)).run Tryd.prog w = .ok (decide (xs = ys)) w := by
  obtain ⟨i0, hi, _⟩ := info_parts infoByte
  exact run_eq_bytes 23 32 i0 Tryd.underlying23 hi xs ys hx hy w
theorem run_eq_cav (a b : Cav) (w : World) : (Op.equalIn 10000 50 (.agg (cavV a).toArray) (.agg (cavV b).toArray)).run Tryd.prog w = .ok (decide (a = b)) w := by
  obtain ⟨a1, a2, a3, a4, a5⟩ := a
  obtain ⟨b1, b2, b3, b4, b5⟩ := b
  show (Op.equalIn 10000 50 (.agg #[.bool a1, .string (bstr a2), .int .u64 a3, .string (bstr a4), .string (bstr a5)]) (.agg #[.bool b1, .string (bstr b2), .int .u64 b3, .string (bstr b4), .string (bstr b5)])).run Tryd.prog w = _
  go_simp
  simp only [bstr_toList]
  by_cases h1 : a1 = b1 <;> by_cases h2 : a2 = b2 <;> by_cases h3 : a3 = b3 <;> by_cases h4 : a4 = b4 <;> by_cases h5 : a5 = b5 <;> simp [h1, h2, h3, h4, h5]
  all_goals omega
theorem take_same {cs ds : List Cav} {k : Nat} {a : Cav} (h : cs.take k = ds.take k) (ha : cs[k]? = some a) (hb : ds[k]? = some a) : cs.take (k + 1) = ds.take (k + 1) := by
  rw [List.take_add_one, List.take_add_one, h, ha, hb]
set_option maxRecDepth 100000 in
set_option maxHeartbeats 4000000 in
theorem rsame_any (t u : Tok) (ht : t.Ok) (hu : u.Ok) (A : Option Addr) (c : Nat) (B : Option Addr) (d : Nat) (w : World) (hs : Sl w A (c * 5) (t.cavs.flatMap cavV)) (hp : Sl w B (d * 5) (u.cavs.flatMap cavV)) (hcl : t.cavs.length ≤ 9223372036854775807) :
    Calls Tryd.prog 10 #[.agg (tokV t A c).toArray, .agg (tokV u B d).toArray] w fun e w' => e = .returned (.bool (decide (t = u))) ∧ Below w.heap.size w w' := by
  have hgt := tokV_get t A c
  have hgu := tokV_get u B d
  obtain ⟨V, hV⟩ : ∃ V, V = tokV t A c := ⟨_, rfl⟩
  obtain ⟨U, hU⟩ : ∃ U, U = tokV u B d := ⟨_, rfl⟩
  obtain ⟨r0, r1, hb1, hz⟩ := two_rows (w := w) (A := V) (B := U) (tA := 27) (tB := 27) rfl
  rw [← hV, ← hU]
  have tt := (tok_tag ht (by rw [← hV]; exact r0)).range
  have tu := (tok_tag hu (by rw [← hU]; exact r1)).range
  rw [← hV] at hgt
  rw [← hU] at hgu
  clear hV hU hz
  have hzt := Lib.hid (show (Tryd.prog.info? 23).map (·.size) = some (byts t.tag).length by rw [size_tag, length_byts, ht.tag])
  have hzu := Lib.hid (show (Tryd.prog.info? 23).map (·.size) = some (byts u.tag).length by rw [size_tag, length_byts, hu.tag])
  have hE := tag_neq t.tag u.tag ht.tag hu.tag
  have hne : ∀ p : Prop, (t = u → p) → ¬ p → decide (t = u) = false := fun p h1 h2 => decide_eq_false fun e => h2 (h1 e)
  have c0 : ((w.alloc (.cells V.toArray 27)).alloc (.cells U.toArray 27)).cell? ⟨w.heap.size, 0, none⟩ = some (.int .u64 t.key) := by rw [r0.cell]; exact hgt.1
  have c1 : ((w.alloc (.cells V.toArray 27)).alloc (.cells U.toArray 27)).cell? ⟨w.heap.size, 1, none⟩ = some (.string (bstr t.id)) := by rw [r0.cell]; exact hgt.2.1
  have c2 : ((w.alloc (.cells V.toArray 27)).alloc (.cells U.toArray 27)).cell? ⟨w.heap.size, 2, none⟩ = some (.slice A t.cavs.length c) := by rw [r0.cell]; exact hgt.2.2.1
  have c3 : ((w.alloc (.cells V.toArray 27)).alloc (.cells U.toArray 27)).cell? ⟨w.heap.size, 3, none⟩ = some (.bool t.bound) := by rw [r0.cell]; exact hgt.2.2.2
  have d0 : ((w.alloc (.cells V.toArray 27)).alloc (.cells U.toArray 27)).cell? ⟨w.heap.size + 1, 0, none⟩ = some (.int .u64 u.key) := by rw [r1.cell]; exact hgu.1
  have d1 : ((w.alloc (.cells V.toArray 27)).alloc (.cells U.toArray 27)).cell? ⟨w.heap.size + 1, 1, none⟩ = some (.string (bstr u.id)) := by rw [r1.cell]; exact hgu.2.1
  have d2 : ((w.alloc (.cells V.toArray 27)).alloc (.cells U.toArray 27)).cell? ⟨w.heap.size + 1, 2, none⟩ = some (.slice B u.cavs.length d) := by rw [r1.cell]; exact hgu.2.2.1
  have d3 : ((w.alloc (.cells V.toArray 27)).alloc (.cells U.toArray 27)).cell? ⟨w.heap.size + 1, 3, none⟩ = some (.bool u.bound) := by rw [r1.cell]; exact hgu.2.2.2
  have hs1 := hs.later (Nat.le_refl _) hb1
  have hp1 := hp.later (Nat.le_refl _) hb1
  have hlt1 := r0.lt
  have hlt2 := r1.lt
  clear hgt hgu hs hp r0 r1
  go_enter Tryd.func10, Tryd.ntmps10
  by_cases hK : t.key = u.key
  · have HK := Lib.hid hK
    rw [← hK] at d0
    clear hK
    by_cases hI : t.id = u.id
    · have HI := Lib.hid hI
      rw [← hI] at d1
      clear hI
      by_cases hB : t.bound = u.bound
      · have HB := Lib.hid hB
        rw [← hB] at d3
        clear hB
        by_cases hT : t.tag = u.tag
        · rw [decide_eq_true hT] at hE
          have HT := Lib.hid hT
          clear hT
          by_cases hL : t.cavs.length = u.cavs.length
          · have HL := Lib.hid hL
            rw [← hL] at d2
            clear hL
            go_wp2_with (first
              | (refine wpList_step fun K hK => ?_; refine step_load_mid (some 27) rfl (by rfl) 23 (.tmp 26) rfl w.heap.size 4 rfl (byts t.tag) _ tt Tryd.underlying23 rfl hzt.out ?_; refine hK _ _ ?_)
              | (refine wpList_step fun K hK => ?_; refine step_load_mid (some 29) rfl (by rfl) 23 (.tmp 28) rfl (w.heap.size + 1) 4 rfl (byts u.tag) _ tu Tryd.underlying23 rfl hzu.out ?_; refine hK _ _ ?_))
            have HEq := Lib.hid (fun (h : t.cavs = u.cavs) => (show t = u from (Tok.ext_iff' t u).2 ⟨HK.out, HI.out, h, HB.out, HT.out⟩))
            have HNe := Lib.hid (fun (h : t.cavs ≠ u.cavs) => hne (t.cavs = u.cavs) (fun e => by rw [e]) h)
            generalize (w.alloc (.cells V.toArray 27)).alloc (.cells U.toArray 27) = w1 at *
            have hc2 : ∀ w', Below w1.heap.size w1 w' → w'.cell? ⟨w.heap.size, 2, none⟩ = some (.slice A t.cavs.length c) := fun w' h => by rw [h.cell (p := ⟨w.heap.size, 2, none⟩) hlt1]; exact c2
            have hd2 : ∀ w', Below w1.heap.size w1 w' → w'.cell? ⟨w.heap.size + 1, 2, none⟩ = some (.slice B t.cavs.length d) := fun w' h => by rw [h.cell (p := ⟨w.heap.size + 1, 2, none⟩) hlt2]; exact d2
            have hL := HL.out
            clear c0 c1 c2 c3 d0 d1 d2 d3 hE hne HK HI HB HT tt tu hzt hzu HL
            generalize t.cavs = cs at *
            generalize u.cavs = ds at *
            go_loopw [44] (fun i wr => ∃ k : Nat, k ≤ cs.length ∧ i = .int .i64 k ∧ cs.take k = ds.take k ∧ Below w1.heap.size w1 wr) (fun i _ => cs.length - (intOf i).toNat)
            case atStart => exact ⟨0, by omega, rfl, rfl, Below.refl _ _⟩
            case round =>
              obtain ⟨k, hk, rfl, hsame, hb⟩ := hrel
              by_cases hlt : k < cs.length
              · obtain ⟨a, ha⟩ : ∃ a, cs[k]? = some a := ⟨_, List.getElem?_eq_getElem hlt⟩
                obtain ⟨e, he⟩ : ∃ e, ds[k]? = some e := ⟨_, List.getElem?_eq_getElem (by omega)⟩
                obtain ⟨b, o, rfl, hb0, hr0⟩ := hs1.rd.get (i := 0) (by rw [length_cavsV]; omega)
                clear hb0 hr0
                obtain ⟨b', o', rfl, hb0, hr0⟩ := hp1.rd.get (i := 0) (by rw [length_cavsV]; omega)
                clear hb0 hr0
                have hix := index_cav (some ⟨b, o, none⟩) b o cs.length c k rfl hlt
                have hiy := index_cav (some ⟨b', o', none⟩) b' o' cs.length d k rfl hlt
                have hrx := Lib.hid (show ∀ w', Below w1.heap.size w1 w' → w'.rangeAt b (o + k * 5) (cavV a) from fun w' h => (hs1.later (Nat.le_refl _) h).thing (k := 5) (fun _ _ => rfl) k a ha)
                have hry := Lib.hid (show ∀ w', Below w1.heap.size w1 w' → w'.rangeAt b' (o' + k * 5) (cavV e) from fun w' h => (hp1.later (Nat.le_refl _) h).thing (k := 5) (fun _ _ => rfl) k e he)
                have hzx := Lib.hid (show (Tryd.prog.info? 50).map (·.size) = some (cavV a).length from size_cav)
                have hzy := Lib.hid (show (Tryd.prog.info? 50).map (·.size) = some (cavV e).length from size_cav)
                have hE := run_eq_cav a e
                obtain ⟨VX, hVX⟩ : ∃ V, V = cavV a := ⟨_, rfl⟩
                obtain ⟨VY, hVY⟩ : ∃ V, V = cavV e := ⟨_, rfl⟩
                rw [← hVX] at hrx hzx hE
                rw [← hVY] at hry hzy hE
                clear hVX hVY
                by_cases hae : a = e
                · have HS := Lib.hid (take_same hsame ha (by rw [hae]; exact he))
                  rw [decide_eq_true hae] at hE
                  clear hae ha he hsame hs1 hp1
                  go_wp2_with fail
                  refine wp_region_noPanic ?_
                  refine wp_region_held_drew (S := fun w' => Below w1.heap.size w1 w') (by kernel_rfl) (hb.drew) (fun hHeld => ?_)
                  refine rt 0 47 hHeld ?_
                  refine rt 1 48 hHeld ?_
                  refine rt 2 49 hHeld ?_
                  refine rt 3 50 hHeld ?_
                  refine rt 4 51 hHeld ?_ (hy := by intro w hS; exact run_load_op 50 (.tmp 50) rfl b (o + k * 5) rfl VX _ (hrx.out _ hS) Tryd.underlying50 rfl hzx.out)
                  refine rt 5 52 hHeld ?_
                  refine rt 6 53 hHeld ?_
                  refine rt 7 54 hHeld ?_
                  refine rt 8 55 hHeld ?_
                  refine rt 9 56 hHeld ?_ (hy := by intro w hS; exact run_load_op 50 (.tmp 55) rfl b' (o' + k * 5) rfl VY _ (hry.out _ hS) Tryd.underlying50 rfl hzy.out)
                  refine rt 10 57 hHeld ?_
                  refine wpAnyH_done (by kernel_rfl) ?_ _
                  refine NoPanic.normal ?_
                  go_wp2_with fail
                  go_roundw
                  case rel => exact ⟨k + 1, by omega, by go_num, HS.out, hHeld⟩
                  case measure => simp [intOf]; omega
                · have HF := Lib.hid (HNe.out (fun h => hae (by rw [h] at ha; rw [ha] at he; exact Option.some.inj he)))
                  rw [decide_eq_false hae] at hE
                  clear hae ha he hsame hs1 hp1
                  go_wp2_with fail
                  refine wp_region_noPanic ?_
                  refine wp_region_held_drew (S := fun w' => Below w1.heap.size w1 w') (by kernel_rfl) (hb.drew) (fun hHeld => ?_)
                  refine rt 0 47 hHeld ?_
                  refine rt 1 48 hHeld ?_
                  refine rt 2 49 hHeld ?_
                  refine rt 3 50 hHeld ?_
                  refine rt 4 51 hHeld ?_ (hy := by intro w hS; exact run_load_op 50 (.tmp 50) rfl b (o + k * 5) rfl VX _ (hrx.out _ hS) Tryd.underlying50 rfl hzx.out)
                  refine rt 5 52 hHeld ?_
                  refine rt 6 53 hHeld ?_
                  refine rt 7 54 hHeld ?_
                  refine rt 8 55 hHeld ?_
                  refine rt 9 56 hHeld ?_ (hy := by intro w hS; exact run_load_op 50 (.tmp 55) rfl b' (o' + k * 5) rfl VY _ (hry.out _ hS) Tryd.underlying50 rfl hzy.out)
                  refine rt 10 57 hHeld ?_
                  refine wpAnyH_done (by kernel_rfl) ?_ _
                  refine NoPanic.normal ?_
                  go_wp2
                  go_ret
                  exact ⟨by rw [HF.out]; rfl, hb1.trans (hHeld.mono hb1.size)⟩
              · obtain rfl : k = cs.length := by omega
                rw [List.take_length, hL, List.take_length] at hsame
                have HF := Lib.hid (decide_eq_true (HEq.out hsame))
                clear hlt hk hs1 hp1 hsame HEq HNe
                generalize cs.length = n at *
                go_wp2
                go_ret
                exact ⟨by rw [HF.out]; rfl, hb1.trans (hb.mono hb1.size)⟩
          · have HE := Lib.hid (hne (t.cavs.length = u.cavs.length) (fun e => by rw [e]) hL)
            have hL' : ((t.cavs.length : Int) == (u.cavs.length : Int)) = false := by rw [beq_eq_false_iff_ne]; omega
            clear hL hs1 hp1 hne
            go_wp2_with (first
              | (refine wpList_step fun K hK => ?_; refine step_load_mid (some 27) rfl (by rfl) 23 (.tmp 26) rfl w.heap.size 4 rfl (byts t.tag) _ tt Tryd.underlying23 rfl hzt.out ?_; refine hK _ _ ?_)
              | (refine wpList_step fun K hK => ?_; refine step_load_mid (some 29) rfl (by rfl) 23 (.tmp 28) rfl (w.heap.size + 1) 4 rfl (byts u.tag) _ tu Tryd.underlying23 rfl hzu.out ?_; refine hK _ _ ?_))
            go_ret
            exact ⟨by rw [HE.out]; rfl, hb1⟩
        · have HE := Lib.hid (hne _ (fun e => by rw [e]) hT)
          rw [decide_eq_false hT] at hE
          clear hT hne hs1 hp1
          go_wp2_with (first
            | (refine wpList_step fun K hK => ?_; refine step_load_mid (some 27) rfl (by rfl) 23 (.tmp 26) rfl w.heap.size 4 rfl (byts t.tag) _ tt Tryd.underlying23 rfl hzt.out ?_; refine hK _ _ ?_)
            | (refine wpList_step fun K hK => ?_; refine step_load_mid (some 29) rfl (by rfl) 23 (.tmp 28) rfl (w.heap.size + 1) 4 rfl (byts u.tag) _ tu Tryd.underlying23 rfl hzu.out ?_; refine hK _ _ ?_))
          go_ret
          exact ⟨by rw [HE.out]; rfl, hb1⟩
      · have HE := Lib.hid (hne _ (fun e => by rw [e]) hB)
        have hL' : (t.bound == u.bound) = false := by rw [beq_eq_false_iff_ne]; exact hB
        clear hB hne hs1 hp1
        go_wp2
        go_ret
        exact ⟨by rw [HE.out]; rfl, hb1⟩
    · have HE := Lib.hid (hne _ (fun e => by rw [e]) hI)
      have hL' : ¬ (bstr t.id).toList = (bstr u.id).toList := by rw [bstr_toList, bstr_toList]; exact hI
      clear hI hne hs1 hp1
      go_wp2
      go_ret
      exact ⟨by rw [HE.out]; rfl, hb1⟩
  · have HE := Lib.hid (hne _ (fun e => by rw [e]) hK)
    have hL' : ¬ (t.key : Int) = (u.key : Int) := by omega
    clear hK hne hs1 hp1
    go_wp2
    go_ret
    exact ⟨by rw [HE.out]; rfl, hb1⟩
end Go.Proofs.YtnkkgclmmaakgaaDoor
