/- LAYER 10: package packet: Encode. -/
import Derived.Test.YthiebbhooigogaaPca
import Derived.Test.YthiebbhooigogaaPcb
namespace Go.Proofs.Ythiebbhooigogaa
open Go Go.RowKit

theorem checkT_many {t : Tok} (h : checkT t = true) : t.cavs.length ≤ 64 := by
  unfold checkT at h
  simp only [Bool.and_eq_true, decide_eq_true_eq] at h
  exact h.1.2
set_option maxRecDepth 20000 in
set_option maxHeartbeats 4000000 in
theorem penc_any (t : Tok) (ht : t.Ok) (hf : t.Fit) (A : Option Addr) (c : Nat) (w : World) (hs : Sl w A (c * 5) (t.cavs.flatMap cavV)) :
    Calls Try.prog 33 #[.agg (tokV t A c).toArray] w fun e w' => ∃ B d, e = .returned (.tuple #[.slice B (encT t).length d, .int .i64 (errT t)]) ∧ Sl w' B d (byts (encT t)) ∧ Below w.heap.size w w' := by
  obtain ⟨i0, hi, hz0, hz1, hz2⟩ := info_ff
  have hb0 : Below w.heap.size w (w.alloc (.cells (tokV t A c).toArray 27)) := (Below.refl _ _).alloc (Nat.le_refl _) _
  have hr : Row (w.alloc (.cells (tokV t A c).toArray 27)) w.heap.size 27 (tokV t A c) := Row.new w 27 _
  have hg := tokV_get t A c
  have htg := tok_tag ht hr
  have hrlt := hr.lt
  have hck := Lib.hid (show ∀ w1, Sl w1 A (c * 5) (t.cavs.flatMap cavV) → Calls Try.prog 25 #[.agg (tokV t A c).toArray] w1 fun e w' => e = .returned (.int .i64 (errT t)) ∧ Below w1.heap.size w1 w' from fun w1 h => pcheck_any t ht hf A c w1 h)
  have hzt := Lib.hid (show (Try.prog.info? 27).map (·.size) = some (tokV t A c).toArray.size by rw [List.size_toArray, length_tokV ht]; exact size_tok)
  obtain ⟨V, hV⟩ : ∃ V, V = tokV t A c := ⟨_, rfl⟩
  rw [← hV] at hb0 hr hg htg hrlt hck hzt ⊢
  clear hV
  have hs0 := hs.later (Nat.le_refl _) hb0
  have hnum := Lib.hid (pnumbered_any t.key ht.key)
  have hpt := Lib.hid ht.party
  have htl := ht.tag
  by_cases hcT : checkT t = true
  · have HEr := Lib.hid (show errT t = 0 by unfold errT; rw [if_pos hcT])
    have HEn := Lib.hid (show encT t = bytesT t by unfold encT; rw [if_pos hcT])
    have hm := bytesT_len ht hcT
    have hmc := checkT_many hcT
    rw [HEr.out, HEn.out]
    rw [HEr.out] at hck
    have R0 := Lib.hid (show (w.alloc (.cells V.toArray 27)).heap[w.heap.size]? = some (.cells V.toArray 27 (0, 0)) from hr)
    clear hs ht hf hcT
    go_enter Try.func33, Try.ntmps33
    go_wp2_with (first
      | (with_reducible refine wpList_load_row rfl 27 (.tmp 1) rfl w.heap.size rfl 27 V.toArray (0, 0) _ R0.out Try.underlying27 rfl hzt.out ?_)
      | (go_at_call 25; refine (hck.out _ hs0).mono ?_; rintro e w1 ⟨rfl, hbc⟩))
    have hb1 := hb0.trans (hbc.mono hb0.size)
    have hs1 := hs0.later (Nat.le_refl _) hbc
    replace hr := hr.later hbc hrlt
    replace hrlt := Nat.lt_of_lt_of_le hrlt hbc.size
    replace htg := htg.later (Nat.le_refl _) hbc
    clear R0 hbc hb0 hs0 hck hzt
    generalize w.alloc (.cells V.toArray 27) = w0 at *
    have hc0 : ∀ w', Below w1.heap.size w1 w' → w'.cell? ⟨w.heap.size, 0, none⟩ = some (.int .u64 t.key) := fun w' h => by rw [(hr.later h hrlt).cell]; exact hg.1
    have hc1 : ∀ w', Below w1.heap.size w1 w' → w'.cell? ⟨w.heap.size, 1, none⟩ = some (.string (bstr t.id)) := fun w' h => by rw [(hr.later h hrlt).cell]; exact hg.2.1
    have hcA := Lib.hid (show ∀ w', Below w1.heap.size w1 w' → w'.cell? ⟨w.heap.size, 2, none⟩ = some (.slice A t.cavs.length c) from fun w' h => by rw [(hr.later h hrlt).cell]; exact hg.2.2.1)
    have hcBn := Lib.hid (show ∀ w', Below w1.heap.size w1 w' → w'.cell? ⟨w.heap.size, 3, none⟩ = some (.bool t.bound) from fun w' h => by rw [(hr.later h hrlt).cell]; exact hg.2.2.2)
    have hcvT := Lib.hid (conv_at htg 32 htl.symm (fun a ha => by cases ha; exact hrlt))
    clear hg hr htg
    refine wp_region_noPanic ?_
    refine wp_region_held_drew (S := fun w' => Below w1.heap.size w1 w') (by kernel_rfl) ((Below.refl _ _).drew) (fun hHeld => ?_)
    refine rtake 0 _ (some 13) _ rfl rfl (by kernel_rfl) (by kernel_rfl) (by kernel_rfl) (fun _ _ _ h => h) (by rfl) hHeld (by intro w hS; go_simp; try with_reducible rfl) ?_
    try (first | (rw [put_some]; dsimp only [List.set]) | rw [put_none])
    refine rtake 1 _ (some 14) _ rfl rfl (by kernel_rfl) (by kernel_rfl) (by kernel_rfl) (fun _ _ _ h => h) (by rfl) hHeld (by intro w hS; go_simp; try with_reducible rfl) ?_
    try (first | (rw [put_some]; dsimp only [List.set]) | rw [put_none])
    refine rtake 4 _ (some 17) _ rfl rfl (by kernel_rfl) (by kernel_rfl) (by kernel_rfl) (fun _ _ _ h => h) (by rfl) hHeld (by intro w hS; go_simp; try with_reducible rfl) ?_
    try (first | (rw [put_some]; dsimp only [List.set]) | rw [put_none])
    refine rtake 5 _ (some 18) _ rfl rfl (by kernel_rfl) (by kernel_rfl) (by kernel_rfl) (fun _ _ _ h => h) (by rfl) hHeld (by intro w hS; go_simp; try with_reducible rfl) ?_
    try (first | (rw [put_some]; dsimp only [List.set]) | rw [put_none])
    refine rtake 6 _ (some 19) _ rfl rfl (by kernel_rfl) (by kernel_rfl) (by kernel_rfl) (fun _ _ _ h => h) (by rfl) hHeld (by intro w hS; go_simp; try with_reducible rfl) ?_
    try (first | (rw [put_some]; dsimp only [List.set]) | rw [put_none])
    refine wpAnyH_ready (rs := [2]) (by kernel_rfl) (by simp) (AllReadyH.cons (o := _) rfl (fun K hK => ?_) AllReadyH.nil)
    go_simp
    refine (hnum.out _).mono ?_; rintro e w2 ⟨rfl, hb2⟩; have hq2 := hHeld.trans (hb2.mono hHeld.size)
    try go_wp2_with fail
    refine hK.out _ _ (hq2) (fun hHeld => ?_)
    clear hK K
    try (first | (rw [put_some]; dsimp only [List.set]) | rw [put_none])
    refine rtake 3 _ (some 16) _ rfl rfl (by kernel_rfl) (by kernel_rfl) (by kernel_rfl) (fun _ _ _ h => h) (by rfl) hHeld (by intro w hS; go_simp; try with_reducible rfl) ?_
    try (first | (rw [put_some]; dsimp only [List.set]) | rw [put_none])
    refine wpAnyH_ready (rs := [7]) (by kernel_rfl) (by simp) (AllReadyH.cons (o := _) rfl (fun K hK => ?_) AllReadyH.nil)
    refine step_alloc (some 20) rfl (by rfl) (.slice (some ⟨w2.heap.size, 0, none⟩) 2 2) (.cells (([(1, varL t.key), (2, t.id)] : List Fd).flatMap fdV).toArray 55) (by go_simp; try rfl) ?_; intro w3 hw3 hb3; have hq3 := hHeld.trans (hb3.mono hHeld.size); have hown3 : w3.ownsRow w1.heap.size 55 2 (.slice (some ⟨w2.heap.size, 0, none⟩) 2 2) 2 (([(1, varL t.key), (2, t.id)] : List Fd).flatMap fdV) := (by rw [hw3]; exact World.ownsRow_lit w2 _ 2 hq2.size (by decide) rfl); clear hw3
    refine hK.out _ _ (hq3) (fun hHeld => ?_)
    clear hK K
    try (first | (rw [put_some]; dsimp only [List.set]) | rw [put_none])
    refine rtake 8 _ (some 5) _ rfl rfl (by kernel_rfl) (by kernel_rfl) (by kernel_rfl) (fun _ _ _ h => h) (by rfl) hHeld (by intro w hS; go_simp; try with_reducible rfl) ?_
    try (first | (rw [put_some]; dsimp only [List.set]) | rw [put_none])
    refine wpAnyH_done (by kernel_rfl) ?_ _
    refine NoPanic.normal ?_
    clear hc0 hc1 hHeld hb2 hb3 hnum
    have hcA3 := hcA.out w3 hq3
    have HN := Lib.hid (show (3 * t.cavs.length + 4) * 24 ≤ 140737488355328 by omega)
    obtain ⟨cs, hcs⟩ : ∃ cs, cs = t.cavs := ⟨_, rfl⟩
    have hjoin := Lib.hid (show ∀ A6 c6 w1, Sl w1 A6 (c6 * 2) ((tokF t).flatMap fdV) → Calls Try.prog 20 #[.slice A6 (tokF t).length c6] w1 (GaveBytes (bytesT t) w1) from fun A6 c6 w1 h => fjoin_any A6 (tokF t).length c6 (tokF t) w1 h rfl hm)
    have HT := Lib.hid (show tokF t = [(1, varL t.key), (2, t.id)] ++ cs.flatMap cavF ++ [(7, [if t.bound then 1 else 0]), (8, t.tag)] by rw [hcs]; rfl)
    rw [← hcs] at hs1 hpt hcA3 HN
    have hcl : cs.length ≤ 1000000 := by rw [hcs]; omega
    clear hcA hcs hm hmc
    obtain ⟨d0, hd0⟩ : ∃ d0 : List Fd, d0 = [(1, varL t.key), (2, t.id)] := ⟨_, rfl⟩
    have hd2 : d0.length = 2 := by rw [hd0]; rfl
    rw [← hd0] at hown3 HT
    clear hd0
    go_wp2_with fail
    go_loopw [5, 24] (fun v i wr => ∃ k : Nat, k ≤ cs.length ∧ i = .int .i64 k ∧ wr.ownsRow w1.heap.size 55 2 v (d0 ++ (cs.take k).flatMap cavF).length ((d0 ++ (cs.take k).flatMap cavF).flatMap fdV) ∧ Below w1.heap.size w1 wr) (fun _ i _ => cs.length - (intOf i).toNat)
    case atStart =>
      refine ⟨0, by omega, rfl, ?_, hq3⟩
      rw [List.take_zero, List.flatMap_nil, List.append_nil, hd2]; exact hown3
    case round =>
      clear hown3 hcA3 hq3 hq2
      obtain ⟨k, hk, rfl, hown, hb⟩ := hrel
      by_cases hlt : k < cs.length
      · obtain ⟨cv, hcv⟩ : ∃ cv, cs[k]? = some cv := ⟨_, List.getElem?_eq_getElem hlt⟩
        obtain ⟨b, o, rfl, hb0, hr0⟩ := hs1.rd.get (i := 0) (by rw [length_cavsV]; omega)
        clear hb0 hr0
        have hix := index_cav (some ⟨b, o, none⟩) b o cs.length c k rfl hlt
        have hrg := (hs1.later (Nat.le_refl _) hb).thing (k := 5) (fun _ _ => rfl) k cv hcv
        have HD := Lib.hid (show d0 ++ (cs.take (k + 1)).flatMap cavF = (d0 ++ (cs.take k).flatMap cavF) ++ cavF cv by rw [take_cavs cs k cv hcv, List.append_assoc])
        have hdl : (d0 ++ (cs.take k).flatMap cavF).length ≤ 2 + 3 * k := by
          have := cavsF_len (cs.take k)
          rw [List.length_take] at this
          rw [List.length_append, hd2]; omega
        generalize d0 ++ (cs.take k).flatMap cavF = ds at *
        have hcl3 := cavF_len cv
        have hcav := Lib.hid (pfields_any cv (hpt.out cv (List.mem_of_getElem? hcv)))
        have hzf := Lib.hid (show (Try.prog.info? 51).map (·.size) = some (cavV cv).length from size_cav)
        have hzf2 := Lib.hid (show (Try.prog.info? 51).map (·.size) = some (cavV cv).toArray.size from size_cav)
        have hof := Lib.hid (show (cavV cv).toArray.all (·.oneCell') = true from all_one (fun v hv => cavV_one [cv] v (by simpa using hv)))
        obtain ⟨V2, hV2q⟩ : ∃ V, V = cavV cv := ⟨_, rfl⟩
        rw [← hV2q] at hrg hcav hzf hzf2 hof
        have hV2 := Lib.hid (show (5 : Nat) = V2.toArray.size by rw [hV2q]; rfl)
        generalize cavF cv = fs at *
        have n1 : ds.length + fs.length ≤ maxLen := by unfold maxLen; omega
        have n2 : (ds.length + fs.length) * 24 ≤ 140737488355328 := by omega
        have HF := Lib.hid (length_fdsV fs)
        have HA := Lib.hid (show ds.length + fs.length = (ds ++ fs).length from List.length_append.symm)
        have hone := Lib.hid (fdV_one fs)
        clear hV2q hcv hdl hcl3
        go_wp2_with (first
          | (with_reducible refine wpList_load_mid rfl 51 (.tmp 26) rfl b (o + k * 5) rfl V2 _ hrg Try.underlying51 rfl hzf.out ?_)
          | (with_reducible refine wpList_store_row rfl 51 (.tmp 7) (.tmp 27) rfl wr.heap.size V2.toArray rfl rfl 51 _ (heap_alloc_new wr _) hzf2.out (Eq.trans (by kernel_rfl) hV2.out) hof.out ?_; refine Hid.out ?_))
        refine Lib.hid ?_
        generalize hw5 : World.setRow _ _ _ = w5
        obtain ⟨r5, hb5⟩ := row_new_set (xs := V2) hw5
        have R5 := Lib.hid (show w5.heap[wr.heap.size]? = some (.cells V2.toArray 51 (0, 0)) from r5)
        have hbw5 := hb.trans (hb5.mono hb.size)
        have hown5 := ownk_later hown hb5 (Nat.le_refl _)
        clear hw5 r5 hb5 hown
        go_wp2_with (first
          | (with_reducible refine wpList_load_row rfl 51 (.tmp 7) rfl wr.heap.size rfl 51 V2.toArray (0, 0) _ R5.out Try.underlying51 rfl hzf2.out ?_)
          | (go_at_call 49; refine (hcav.out _).mono ?_; rintro e w6 ⟨A6, c6, rfl, hsl6, hb6⟩; have hown6 := ownk_later hown5 hb6 (Nat.le_refl _); have hbw6 := hbw5.trans (hb6.mono hbw5.size); clear hb6)
          | (at_builtin; refine wpList_append_k rfl (.tmp 28) (.tmp 30) 57 rfl w1.heap.size 55 i0 _ 2 24 Try.underlying57 hi hz0 hz1 (by omega) hz2 rfl _ ds.length (ds.flatMap fdV) rfl hown6 A6 fs.length c6 (fs.flatMap fdV) rfl HF.out hsl6 hone.out n1 n2 hbw6.size ?_; intro v7 w7 hown7 hg7; have hb7 := hbw6.grown hg7 hbw6.size (fun k hk => (hown6.lt k hk).1)))
        rw [← List.flatMap_append, HA.out, ← HD.out] at hown7
        go_roundw
        case rel => exact ⟨k + 1, by omega, by go_num, hown7, hb7⟩
        case measure => simp [intOf]; omega
      · obtain rfl : k = cs.length := by omega
        rw [List.take_length] at hown
        have hdl : (d0 ++ cs.flatMap cavF).length ≤ 2 + 3 * cs.length := by
          have := cavsF_len cs
          rw [List.length_append, hd2]; omega
        generalize d0 ++ cs.flatMap cavF = ds at *
        have hcB := hcBn.out
        have hcT := hcvT
        have hcvT := hcT.out
        have n1 : ds.length + 2 ≤ maxLen := by unfold maxLen; omega
        have n2 : (ds.length + 2) * 24 ≤ 140737488355328 := by omega
        clear hlt hk hs1 hcBn HN hcl hdl hpt hd2
        generalize cs.length = n at *
        obtain ⟨FB, hFB⟩ : ∃ FB : List UInt8, FB = [if t.bound then 1 else 0] := ⟨_, rfl⟩
        have hflag := Lib.hid (pflag_any t.bound)
        have HE := Lib.hid (show tokF t = ds ++ [(7, FB), (8, t.tag)] by rw [HT.out, hFB])
        have HA := Lib.hid (show ds.length + 2 = (tokF t).length by rw [HE.out, List.length_append]; rfl)
        rw [← hFB] at hflag
        clear hFB
        generalize t.bound = bd at *
        go_wp2_with fail
        refine wp_region_noPanic ?_
        refine wp_region_held_drew (S := fun w' => Below w1.heap.size w1 w') (by kernel_rfl) (hb.drew) (fun hHeld => ?_)
        refine rtake 0 _ (some 33) _ rfl rfl (by kernel_rfl) (by kernel_rfl) (by kernel_rfl) (fun _ _ _ h => h) (by rfl) hHeld (by intro w hS; go_simp; try with_reducible rfl) ?_
        try (first | (rw [put_some]; dsimp only [List.set]) | rw [put_none])
        refine rtake 1 _ (some 34) _ rfl rfl (by kernel_rfl) (by kernel_rfl) (by kernel_rfl) (fun _ _ _ h => h) (by rfl) hHeld (by intro w hS; go_simp; try with_reducible rfl) ?_
        try (first | (rw [put_some]; dsimp only [List.set]) | rw [put_none])
        refine rtake 2 _ (some 35) _ rfl rfl (by kernel_rfl) (by kernel_rfl) (by kernel_rfl) (fun _ _ _ h => h) (by rfl) hHeld (by intro w hS; go_simp; try with_reducible rfl) ?_
        try (first | (rw [put_some]; dsimp only [List.set]) | rw [put_none])
        refine rtake 5 _ (some 38) _ rfl rfl (by kernel_rfl) (by kernel_rfl) (by kernel_rfl) (fun _ _ _ h => h) (by rfl) hHeld (by intro w hS; go_simp; try with_reducible rfl) ?_
        try (first | (rw [put_some]; dsimp only [List.set]) | rw [put_none])
        refine rtake 6 _ (some 39) _ rfl rfl (by kernel_rfl) (by kernel_rfl) (by kernel_rfl) (fun _ _ _ h => h) (by rfl) hHeld (by intro w hS; go_simp; try with_reducible rfl) ?_
        try (first | (rw [put_some]; dsimp only [List.set]) | rw [put_none])
        refine rtake 7 _ (some 40) _ rfl rfl (by kernel_rfl) (by kernel_rfl) (by kernel_rfl) (fun _ _ _ h => h) (by rfl) hHeld (by intro w hS; go_simp; try with_reducible rfl) ?_
        try (first | (rw [put_some]; dsimp only [List.set]) | rw [put_none])
        refine rtake 8 _ (some 41) _ rfl rfl (by kernel_rfl) (by kernel_rfl) (by kernel_rfl) (fun _ _ _ h => h) (by rfl) hHeld (by intro w hS; go_simp; try with_reducible rfl) ?_
        try (first | (rw [put_some]; dsimp only [List.set]) | rw [put_none])
        refine wpAnyH_ready (rs := [3]) (by kernel_rfl) (by simp) (AllReadyH.cons (o := _) rfl (fun K hK => ?_) AllReadyH.nil)
        go_simp
        refine (hflag.out _).mono ?_; rintro e w4 ⟨rfl, rfl⟩
        try go_wp2_with fail
        refine hK.out _ _ hHeld (fun _ => ?_)
        clear hK K
        try (first | (rw [put_some]; dsimp only [List.set]) | rw [put_none])
        refine rtake 4 _ (some 37) _ rfl rfl (by kernel_rfl) (by kernel_rfl) (by kernel_rfl) (fun _ _ _ h => h) (by rfl) hHeld (by intro w hS; go_simp; try with_reducible rfl) ?_
        try (first | (rw [put_some]; dsimp only [List.set]) | rw [put_none])
        refine wpAnyH_ready (rs := [9]) (by kernel_rfl) (by simp) (AllReadyH.cons (o := _) rfl (fun K hK => ?_) AllReadyH.nil)
        refine step_alloc (some 42) rfl (by rfl) (.slice (some ⟨wr.heap.size, 0, none⟩) 2 2) (.cells (([(7, FB), (8, t.tag)] : List Fd).flatMap fdV).toArray 55) (by go_simp; try rfl) ?_; intro w5 hw5 hb5; have hq5 := hHeld.trans (hb5.mono hHeld.size); have hsl5 : Sl w5 (some ⟨wr.heap.size, 0, none⟩) (2 * 2) (([(7, FB), (8, t.tag)] : List Fd).flatMap fdV) := (by rw [hw5]; exact ⟨Rd.block (Go.heap_alloc_new wr.drew _), Nat.le_refl _, fun h => by cases h⟩); have hown5 := ownk_later hown ((Below.refl wr.heap.size wr).drew.trans hb5) (Nat.le_refl _); clear hw5
        refine hK.out _ _ (hq5) (fun hHeld => ?_)
        clear hK K
        try (first | (rw [put_some]; dsimp only [List.set]) | rw [put_none])
        refine wpAnyH_ready (rs := [10]) (by kernel_rfl) (by simp) (AllReadyH.cons (o := _) rfl (fun K hK => ?_) AllReadyH.nil)
        refine step_append_k (some 43) rfl (by rfl) (.tmp 33) (.tmp 42) 57 rfl w1.heap.size 55 i0 _ 2 24 Try.underlying57 hi hz0 hz1 (by omega) hz2 rfl _ ds.length (ds.flatMap fdV) rfl hown5 (some ⟨wr.heap.size, 0, none⟩) 2 2 (([(7, FB), (8, t.tag)] : List Fd).flatMap fdV) rfl rfl hsl5 (fdV_one _) n1 n2 hq5.size ?_; intro v6 w6 hown6 hg6; have hq6 := hq5.grown hg6 hq5.size (fun k hk => (hown5.lt k hk).1)
        refine hK.out _ _ (hq6) (fun hHeld => ?_)
        clear hK K
        try (first | (rw [put_some]; dsimp only [List.set]) | rw [put_none])
        refine rtake 11 _ (some 5) _ rfl rfl (by kernel_rfl) (by kernel_rfl) (by kernel_rfl) (fun _ _ _ h => h) (by rfl) hHeld (by intro w hS; go_simp; try with_reducible rfl) ?_
        try (first | (rw [put_some]; dsimp only [List.set]) | rw [put_none])
        refine wpAnyH_done (by kernel_rfl) ?_ _
        refine NoPanic.normal ?_
        rw [← List.flatMap_append, ← HE.out, HA.out] at hown6
        obtain ⟨A6, c6, rfl, _, hsl6⟩ := Sl.of_ownk hown6
        clear hown6 hown5 hown hsl5 hcvT hHeld hcB hcT hb5 hg6
        go_wp2_with (go_at_call 20; refine (hjoin.out A6 c6 _ hsl6).mono ?_; rintro e w7 ⟨v7, rfl, hown7, hb7⟩)
        obtain ⟨A7, c7, rfl, hl7, hsl7⟩ := Sl.of_own hown7
        go_ret2
        exact ⟨A7, c7, rfl, hsl7, (hb1.trans (hq6.mono hb1.size)).trans (hb7.mono (Nat.le_trans hb1.size hq6.size))⟩
  · have HEr := Lib.hid (show errT t = 1 by unfold errT; rw [if_neg hcT])
    have HEn := Lib.hid (show encT t = [] by unfold encT; rw [if_neg hcT])
    rw [HEr.out, HEn.out]
    rw [HEr.out] at hck
    have R0 := Lib.hid (show (w.alloc (.cells V.toArray 27)).heap[w.heap.size]? = some (.cells V.toArray 27 (0, 0)) from hr)
    clear hs ht hf hcT hr
    go_enter Try.func33, Try.ntmps33
    go_wp2_with (first
      | (with_reducible refine wpList_load_row rfl 27 (.tmp 1) rfl w.heap.size rfl 27 V.toArray (0, 0) _ R0.out Try.underlying27 rfl hzt.out ?_)
      | (go_at_call 25; refine (hck.out _ hs0).mono ?_; rintro e w1 ⟨rfl, hbc⟩))
    go_ret2
    exact ⟨none, 0, rfl, ⟨.inl rfl, Nat.le_refl _, fun _ => rfl⟩, hb0.trans (hbc.mono hb0.size)⟩
end Go.Proofs.Ythiebbhooigogaa
