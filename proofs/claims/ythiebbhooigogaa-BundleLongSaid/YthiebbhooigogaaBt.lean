/- LAYER 10: the document's bytes of a token. -/
import Derived.Test.YthiebbhooigogaaCn
import Derived.Test.YthiebbhooigogaaA9
namespace Go.Proofs.Ythiebbhooigogaa
open Go Go.RowKit

theorem tok_tag {w : World} {g : Nat} {t : Tok} {A : Option Addr} {c : Nat} (ht : t.Ok) (h : Row w g 27 (tokV t A c)) : Sl w (some ⟨g, 4, none⟩) 32 (byts t.tag) := by
  refine ⟨.inr ⟨g, 4, rfl, h.lt, fun i hi => ?_⟩, by rw [length_byts, ht.tag]; exact Nat.le_refl _, fun h => by cases h⟩
  rw [h.cell]
  unfold tokV
  rw [List.getElem?_append_right (by show 4 ≤ 4 + i; omega)]
  show (byts t.tag)[4 + i - 4]? = _
  rw [Nat.add_sub_cancel_left]
theorem conv_at {w : World} {A : Option Addr} {c B : Nat} {l : List UInt8} (h : Sl w A c (byts l)) (n : Nat) (hn : n = l.length) (hlt : ∀ a, A = some a → a.block < B) :
    ∀ w', Below B w w' → (convert 31 9 (.slice A n c)).run Try.prog w' = .ok (.string (bstr l)) w' :=
  fun _ hb => conv_bytes (h.under hb (fun _ a ha => hlt a ha)) n hn
theorem take_cavs (cs : List Cav) (k : Nat) (c : Cav) (h : cs[k]? = some c) : (cs.take (k + 1)).flatMap cavF = (cs.take k).flatMap cavF ++ cavF c := by
  rw [List.take_add_one, List.flatMap_append, h]; simp
theorem cavF_len (c : Cav) : (cavF c).length ≤ 3 := by unfold cavF; split <;> simp
theorem cavsF_len (cs : List Cav) : (cs.flatMap cavF).length ≤ 3 * cs.length := by
  induction cs with
  | nil => simp
  | cons c cs ih => rw [List.flatMap_cons, List.length_append, List.length_cons]; have := cavF_len c; omega
theorem fieldsL_len (n : Nat) : ∀ (fs : List Fd), (∀ f ∈ fs, f.2.length ≤ n) → (joinL fs).length ≤ fs.length * (n + 11)
  | [], _ => by simp [joinL]
  | f :: fs, h => by
    have h1 := fieldsL_len n fs (fun g hg => h g (List.mem_cons_of_mem _ hg))
    have h2 := h f List.mem_cons_self
    have h3 := length_fieldL f
    have h4 := length_varL f.2.length
    have e : joinL (f :: fs) = fieldL f ++ joinL fs := by unfold joinL; rw [List.flatMap_cons]
    rw [e, List.length_append, List.length_cons, Nat.succ_mul]; omega
theorem bytesT_len {t : Tok} (h : t.Ok) (hc : checkT t = true) : (bytesT t).length ≤ 1000000 := by
  have h1 := fieldsL_len 1024 (tokF t) (tokF_len h hc)
  have h2 := cavsF_len t.cavs
  have h3 : (tokF t).length = 2 + (t.cavs.flatMap cavF).length + 2 := by unfold tokF; rw [List.length_append, List.length_append]; rfl
  unfold checkT at hc
  simp only [Bool.and_eq_true, decide_eq_true_eq] at hc
  have h4 := hc.1.2
  have h5 : (tokF t).length ≤ 196 := by omega
  have h6 : (tokF t).length * (1024 + 11) ≤ 196 * (1024 + 11) := Nat.mul_le_mul_right _ h5
  show (joinL (tokF t)).length ≤ 1000000
  omega
set_option maxRecDepth 20000 in
set_option maxHeartbeats 4000000 in
theorem rbytesT_any (t : Tok) (ht : t.Ok) (A : Option Addr) (c : Nat) (w : World) (hs : Sl w A (c * 5) (t.cavs.flatMap cavV)) (hm : (bytesT t).length ≤ 1000000) (hmc : t.cavs.length ≤ 1000000) :
    Calls Try.prog 35 #[.agg (tokV t A c).toArray] w (GaveBytes (bytesT t) w) := by
  obtain ⟨i0, hi, hz0, hz1, hz2⟩ := info_fd
  have hb1 : Below w.heap.size w (w.alloc (.cells (tokV t A c).toArray 27)) := (Below.refl _ _).alloc (Nat.le_refl _) _
  have hr : Row (w.alloc (.cells (tokV t A c).toArray 27)) w.heap.size 27 (tokV t A c) := Row.new w 27 _
  have hg := tokV_get t A c
  have htg := tok_tag ht hr
  have hrlt := hr.lt
  obtain ⟨V, hV⟩ : ∃ V, V = tokV t A c := ⟨_, rfl⟩
  rw [← hV] at hb1 hr hg htg hrlt ⊢
  clear hV
  have hs1 := hs.later (Nat.le_refl _) hb1
  have hnum := Lib.hid (rnum_any t.key ht.key)
  have hpt := Lib.hid ht.party
  have htl := ht.tag
  clear hs ht
  go_enter Try.func35, Try.ntmps35
  go_wp2_with fail
  generalize w.alloc (.cells V.toArray 27) = w1 at *
  have hc0 : ∀ w', Below w1.heap.size w1 w' → w'.cell? ⟨w.heap.size, 0, none⟩ = some (.int .u64 t.key) := fun w' h => by rw [(hr.later h hrlt).cell]; exact hg.1
  have hc1 : ∀ w', Below w1.heap.size w1 w' → w'.cell? ⟨w.heap.size, 1, none⟩ = some (.string (bstr t.id)) := fun w' h => by rw [(hr.later h hrlt).cell]; exact hg.2.1
  have hcA := Lib.hid (show ∀ w', Below w1.heap.size w1 w' → w'.cell? ⟨w.heap.size, 2, none⟩ = some (.slice A t.cavs.length c) from fun w' h => by rw [(hr.later h hrlt).cell]; exact hg.2.2.1)
  have hcBn := Lib.hid (show ∀ w', Below w1.heap.size w1 w' → w'.cell? ⟨w.heap.size, 3, none⟩ = some (.bool t.bound) from fun w' h => by rw [(hr.later h hrlt).cell]; exact hg.2.2.2)
  have hcvT := Lib.hid (conv_at htg 32 htl.symm (fun a ha => by cases ha; exact hrlt))
  clear hg hr htg
  refine wp_region_noPanic ?_
  refine wp_region_held_drew (S := fun w' => Below w1.heap.size w1 w') (by kernel_rfl) ((Below.refl _ _).drew) (fun hHeld => ?_)
  refine rtake 0 _ (some 7) _ rfl rfl (by kernel_rfl) (by kernel_rfl) (by kernel_rfl) (fun _ _ _ h => h) (by rfl) hHeld (by intro w hS; go_simp; try with_reducible rfl) ?_
  try (first | (rw [put_some]; dsimp only [List.set]) | rw [put_none])
  refine rtake 1 _ (some 8) _ rfl rfl (by kernel_rfl) (by kernel_rfl) (by kernel_rfl) (fun _ _ _ h => h) (by rfl) hHeld (by intro w hS; go_simp; try with_reducible rfl) ?_
  try (first | (rw [put_some]; dsimp only [List.set]) | rw [put_none])
  refine rtake 4 _ (some 11) _ rfl rfl (by kernel_rfl) (by kernel_rfl) (by kernel_rfl) (fun _ _ _ h => h) (by rfl) hHeld (by intro w hS; go_simp; try with_reducible rfl) ?_
  try (first | (rw [put_some]; dsimp only [List.set]) | rw [put_none])
  refine rtake 5 _ (some 12) _ rfl rfl (by kernel_rfl) (by kernel_rfl) (by kernel_rfl) (fun _ _ _ h => h) (by rfl) hHeld (by intro w hS; go_simp; try with_reducible rfl) ?_
  try (first | (rw [put_some]; dsimp only [List.set]) | rw [put_none])
  refine rtake 6 _ (some 13) _ rfl rfl (by kernel_rfl) (by kernel_rfl) (by kernel_rfl) (fun _ _ _ h => h) (by rfl) hHeld (by intro w hS; go_simp; try with_reducible rfl) ?_
  try (first | (rw [put_some]; dsimp only [List.set]) | rw [put_none])
  refine wpAnyH_ready (rs := [2]) (by kernel_rfl) (by simp) (AllReadyH.cons (o := _) rfl (fun K hK => ?_) AllReadyH.nil)
  go_simp
  refine (hnum.out _).mono ?_; rintro e w2 ⟨rfl, hb2⟩; have hq2 := hHeld.trans (hb2.mono hHeld.size)
  try go_wp2_with fail
  refine hK.out _ _ (hq2) (fun hHeld => ?_)
  clear hK K
  try (first | (rw [put_some]; dsimp only [List.set]) | rw [put_none])
  refine rtake 3 _ (some 10) _ rfl rfl (by kernel_rfl) (by kernel_rfl) (by kernel_rfl) (fun _ _ _ h => h) (by rfl) hHeld (by intro w hS; go_simp; try with_reducible rfl) ?_
  try (first | (rw [put_some]; dsimp only [List.set]) | rw [put_none])
  refine wpAnyH_ready (rs := [7]) (by kernel_rfl) (by simp) (AllReadyH.cons (o := _) rfl (fun K hK => ?_) AllReadyH.nil)
  refine step_alloc (some 14) rfl (by rfl) (.slice (some ⟨w2.heap.size, 0, none⟩) 2 2) (.cells (([(1, varL t.key), (2, t.id)] : List Fd).flatMap fdV).toArray 65) (by go_simp; try rfl) ?_; intro w3 hw3 hb3; have hq3 := hHeld.trans (hb3.mono hHeld.size); have hown3 : w3.ownsRow w1.heap.size 65 2 (.slice (some ⟨w2.heap.size, 0, none⟩) 2 2) 2 (([(1, varL t.key), (2, t.id)] : List Fd).flatMap fdV) := (by rw [hw3]; exact World.ownsRow_lit w2 _ 2 hq2.size (by decide) rfl); clear hw3
  refine hK.out _ _ (hq3) (fun hHeld => ?_)
  clear hK K
  try (first | (rw [put_some]; dsimp only [List.set]) | rw [put_none])
  refine rtake 8 _ (some 3) _ rfl rfl (by kernel_rfl) (by kernel_rfl) (by kernel_rfl) (fun _ _ _ h => h) (by rfl) hHeld (by intro w hS; go_simp; try with_reducible rfl) ?_
  try (first | (rw [put_some]; dsimp only [List.set]) | rw [put_none])
  refine wpAnyH_done (by kernel_rfl) ?_ _
  refine NoPanic.normal ?_
  clear hc0 hc1 hHeld hb2 hb3 hnum
  have hcA3 := hcA.out w3 hq3
  have HN := Lib.hid (show (3 * t.cavs.length + 4) * 24 ≤ 140737488355328 by omega)
  obtain ⟨cs, hcs⟩ : ∃ cs, cs = t.cavs := ⟨_, rfl⟩
  have hjoin := Lib.hid (show ∀ A6 c6 w1, Sl w1 A6 (c6 * 2) ((tokF t).flatMap fdV) → Calls Try.prog 36 #[.slice A6 (tokF t).length c6] w1 (GaveBytes (bytesT t) w1) from fun A6 c6 w1 h => rjoin_any A6 (tokF t).length c6 (tokF t) w1 h rfl hm)
  have HT := Lib.hid (show tokF t = [(1, varL t.key), (2, t.id)] ++ cs.flatMap cavF ++ [(7, [if t.bound then 1 else 0]), (8, t.tag)] by rw [hcs]; rfl)
  rw [← hcs] at hs1 hpt hcA3 HN
  have hcl : cs.length ≤ 1000000 := by rw [hcs]; exact hmc
  clear hcA hcs hm hmc
  obtain ⟨d0, hd0⟩ : ∃ d0 : List Fd, d0 = [(1, varL t.key), (2, t.id)] := ⟨_, rfl⟩
  have hd2 : d0.length = 2 := by rw [hd0]; rfl
  rw [← hd0] at hown3 HT
  clear hd0
  go_wp2_with fail
  go_loopw [3, 18] (fun v i wr => ∃ k : Nat, k ≤ cs.length ∧ i = .int .i64 k ∧ wr.ownsRow w1.heap.size 65 2 v (d0 ++ (cs.take k).flatMap cavF).length ((d0 ++ (cs.take k).flatMap cavF).flatMap fdV) ∧ Below w1.heap.size w1 wr) (fun _ i _ => cs.length - (intOf i).toNat)
  case atStart =>
    refine ⟨0, by omega, rfl, ?_, hq3⟩
    rw [List.take_zero, List.flatMap_nil, List.append_nil, hd2]; exact hown3
  case round =>
    clear hown3 hcA3 hq3 hq2
    obtain ⟨k, hk, rfl, hown, hb⟩ := hrel
    by_cases hlt : k < cs.length
    · obtain ⟨cv, hcv⟩ : ∃ cv, cs[k]? = some cv := ⟨_, List.getElem?_eq_getElem hlt⟩
      obtain ⟨b, o, rfl, hb0, hr0⟩ := hs1.rd.get (i := 0) (by rw [length_cavsV]; omega)
      clear hb0 hr0
      have hix := index_cav (some ⟨b, o, none⟩) b o cs.length c k rfl hlt
      have hrg := (hs1.later (Nat.le_refl _) hb).thing (k := 5) (fun _ _ => rfl) k cv hcv
      have HD := Lib.hid (show d0 ++ (cs.take (k + 1)).flatMap cavF = (d0 ++ (cs.take k).flatMap cavF) ++ cavF cv by rw [take_cavs cs k cv hcv, List.append_assoc])
      have hdl : (d0 ++ (cs.take k).flatMap cavF).length ≤ 2 + 3 * k := by
        have := cavsF_len (cs.take k)
        rw [List.length_take] at this
        rw [List.length_append, hd2]; omega
      generalize d0 ++ (cs.take k).flatMap cavF = ds at *
      have hcl3 := cavF_len cv
      have hcav := Lib.hid (rcav_any cv (hpt.out cv (List.mem_of_getElem? hcv)))
      have hzf := Lib.hid (show (Try.prog.info? 51).map (·.size) = some (cavV cv).length from size_cav)
      have hzf2 := Lib.hid (show (Try.prog.info? 51).map (·.size) = some (cavV cv).toArray.size from size_cav)
      have hof := Lib.hid (show (cavV cv).toArray.all (·.oneCell') = true from all_one (fun v hv => cavV_one [cv] v (by simpa using hv)))
      obtain ⟨V2, hV2q⟩ : ∃ V, V = cavV cv := ⟨_, rfl⟩
      rw [← hV2q] at hrg hcav hzf hzf2 hof
      have hV2 := Lib.hid (show (5 : Nat) = V2.toArray.size by rw [hV2q]; rfl)
      generalize cavF cv = fs at *
      have n1 : ds.length + fs.length ≤ maxLen := by unfold maxLen; omega
      have n2 : (ds.length + fs.length) * 24 ≤ 140737488355328 := by omega
      have HF := Lib.hid (length_fdsV fs)
      have HA := Lib.hid (show ds.length + fs.length = (ds ++ fs).length from List.length_append.symm)
      have hone := Lib.hid (fdV_one fs)
      clear hV2q hcv hdl hcl3
      go_wp2_with (first
        | (with_reducible refine wpList_load_mid rfl 51 (.tmp 20) rfl b (o + k * 5) rfl V2 _ hrg Try.underlying51 rfl hzf.out ?_)
        | (with_reducible refine wpList_store_row rfl 51 (.tmp 5) (.tmp 21) rfl wr.heap.size V2.toArray rfl rfl 51 _ (heap_alloc_new wr _) hzf2.out (Eq.trans (by kernel_rfl) hV2.out) hof.out ?_; refine Hid.out ?_))
      refine Lib.hid ?_
      generalize hw5 : World.setRow _ _ _ = w5
      obtain ⟨r5, hb5⟩ := row_new_set (xs := V2) hw5
      have R5 := Lib.hid (show w5.heap[wr.heap.size]? = some (.cells V2.toArray 51 (0, 0)) from r5)
      have hbw5 := hb.trans (hb5.mono hb.size)
      have hown5 := ownk_later hown hb5 (Nat.le_refl _)
      clear hw5 r5 hb5 hown
      go_wp2_with (first
        | (with_reducible refine wpList_load_row rfl 51 (.tmp 5) rfl wr.heap.size rfl 51 V2.toArray (0, 0) _ R5.out Try.underlying51 rfl hzf2.out ?_)
        | (go_at_call 53; refine (hcav.out _).mono ?_; rintro e w6 ⟨A6, c6, rfl, hsl6, hb6⟩; have hown6 := ownk_later hown5 hb6 (Nat.le_refl _); have hbw6 := hbw5.trans (hb6.mono hbw5.size); clear hb6)
        | (at_builtin; refine wpList_append_k rfl (.tmp 22) (.tmp 24) 62 rfl w1.heap.size 65 i0 _ 2 24 Try.underlying62 hi hz0 hz1 (by omega) hz2 rfl _ ds.length (ds.flatMap fdV) rfl hown6 A6 fs.length c6 (fs.flatMap fdV) rfl HF.out hsl6 hone.out n1 n2 hbw6.size ?_; intro v7 w7 hown7 hg7; have hb7 := hbw6.grown hg7 hbw6.size (fun k hk => (hown6.lt k hk).1)))
      rw [← List.flatMap_append, HA.out, ← HD.out] at hown7
      go_roundw
      case rel => exact ⟨k + 1, by omega, by go_num, hown7, hb7⟩
      case measure => simp [intOf]; omega
    · obtain rfl : k = cs.length := by omega
      rw [List.take_length] at hown
      have hdl : (d0 ++ cs.flatMap cavF).length ≤ 2 + 3 * cs.length := by
        have := cavsF_len cs
        rw [List.length_append, hd2]; omega
      generalize d0 ++ cs.flatMap cavF = ds at *
      have hcB := hcBn.out wr hb
      have hcT := hcvT
      have hcvT := hcT.out
      have n1 : ds.length + 2 ≤ maxLen := by unfold maxLen; omega
      have n2 : (ds.length + 2) * 24 ≤ 140737488355328 := by omega
      clear hlt hk hs1 hcBn HN hcl hdl hpt hd2
      generalize cs.length = n at *
      cases hbd : t.bound with
      | false =>
        have HE := Lib.hid (show tokF t = ds ++ [(7, [0]), (8, t.tag)] by rw [HT.out, hbd]; rfl)
        have HA := Lib.hid (show ds.length + 2 = (tokF t).length by rw [HE.out, List.length_append]; rfl)
        rw [hbd] at hcB
        clear hbd
        go_wp2_with fail
        refine wp_region_noPanic ?_
        refine wp_region_held_drew (S := fun w' => Below w1.heap.size w1 w') (by kernel_rfl) (hb.drew) (fun hHeld => ?_)
        refine rtake 0 _ (some 29) _ rfl rfl (by kernel_rfl) (by kernel_rfl) (by kernel_rfl) (fun _ _ _ h => h) (by rfl) hHeld (by intro w hS; go_simp; try with_reducible rfl) ?_
        try (first | (rw [put_some]; dsimp only [List.set]) | rw [put_none])
        refine rtake 1 _ (some 30) _ rfl rfl (by kernel_rfl) (by kernel_rfl) (by kernel_rfl) (fun _ _ _ h => h) (by rfl) hHeld (by intro w hS; go_simp; try with_reducible rfl) ?_
        try (first | (rw [put_some]; dsimp only [List.set]) | rw [put_none])
        refine rtake 5 _ (some 34) _ rfl rfl (by kernel_rfl) (by kernel_rfl) (by kernel_rfl) (fun _ _ _ h => h) (by rfl) hHeld (by intro w hS; go_simp; try with_reducible rfl) ?_
        try (first | (rw [put_some]; dsimp only [List.set]) | rw [put_none])
        refine rtake 6 _ (some 35) _ rfl rfl (by kernel_rfl) (by kernel_rfl) (by kernel_rfl) (fun _ _ _ h => h) (by rfl) hHeld (by intro w hS; go_simp; try with_reducible rfl) ?_
        try (first | (rw [put_some]; dsimp only [List.set]) | rw [put_none])
        refine rtake 7 _ (some 36) _ rfl rfl (by kernel_rfl) (by kernel_rfl) (by kernel_rfl) (fun _ _ _ h => h) (by rfl) hHeld (by intro w hS; go_simp; try with_reducible rfl) ?_
        try (first | (rw [put_some]; dsimp only [List.set]) | rw [put_none])
        refine rtake 8 _ (some 37) _ rfl rfl (by kernel_rfl) (by kernel_rfl) (by kernel_rfl) (fun _ _ _ h => h) (by rfl) hHeld (by intro w hS; go_simp; try with_reducible rfl) ?_
        try (first | (rw [put_some]; dsimp only [List.set]) | rw [put_none])
        refine wpAnyH_ready (rs := [2]) (by kernel_rfl) (by simp) (AllReadyH.cons (o := _) rfl (fun K hK => ?_) AllReadyH.nil)
        refine step_alloc (some 31) rfl (by rfl) (.slice (some ⟨wr.heap.size, 0, none⟩) 1 1) (.cells (byts [0]).toArray 5) (by go_simp; try rfl) ?_; intro w4 hw4 hb4; have hq4 := hHeld.trans (hb4.mono hHeld.size); have hsl4 : Sl w4 (some ⟨wr.heap.size, 0, none⟩) 1 (byts [0]) := (by rw [hw4]; exact ⟨Rd.block (Go.heap_alloc_new wr.drew _), Nat.le_refl _, fun h => by cases h⟩); have hcv4 := conv_bytes hsl4 1 rfl; have hown4 := ownk_later hown ((Below.refl wr.heap.size wr).drew.trans hb4) (Nat.le_refl _); clear hw4 hsl4
        refine hK.out _ _ (hq4) (fun hHeld => ?_)
        clear hK K
        try (first | (rw [put_some]; dsimp only [List.set]) | rw [put_none])
        refine wpAnyH_ready (rs := [3]) (by kernel_rfl) (by simp) (AllReadyH.cons (o := _) rfl (fun K hK => ?_) AllReadyH.nil)
        go_simp
        refine hK.out _ _ (hHeld) (fun hHeld => ?_)
        clear hK K
        try (first | (rw [put_some]; dsimp only [List.set]) | rw [put_none])
        refine rtake 4 _ (some 33) _ rfl rfl (by kernel_rfl) (by kernel_rfl) (by kernel_rfl) (fun _ _ _ h => h) (by rfl) hHeld (by intro w hS; go_simp; try with_reducible rfl) ?_
        try (first | (rw [put_some]; dsimp only [List.set]) | rw [put_none])
        refine wpAnyH_ready (rs := [9]) (by kernel_rfl) (by simp) (AllReadyH.cons (o := _) rfl (fun K hK => ?_) AllReadyH.nil)
        refine step_alloc (some 38) rfl (by rfl) (.slice (some ⟨w4.heap.size, 0, none⟩) 2 2) (.cells (([(7, [0]), (8, t.tag)] : List Fd).flatMap fdV).toArray 65) (by go_simp; try rfl) ?_; intro w5 hw5 hb5; have hq5 := hHeld.trans (hb5.mono hHeld.size); have hsl5 : Sl w5 (some ⟨w4.heap.size, 0, none⟩) (2 * 2) (([(7, [0]), (8, t.tag)] : List Fd).flatMap fdV) := (by rw [hw5]; exact ⟨Rd.block (Go.heap_alloc_new w4 _), Nat.le_refl _, fun h => by cases h⟩); have hown5 := ownk_later hown4 hb5 (Nat.le_refl _); clear hw5
        refine hK.out _ _ (hq5) (fun hHeld => ?_)
        clear hK K
        try (first | (rw [put_some]; dsimp only [List.set]) | rw [put_none])
        refine wpAnyH_ready (rs := [10]) (by kernel_rfl) (by simp) (AllReadyH.cons (o := _) rfl (fun K hK => ?_) AllReadyH.nil)
        refine step_append_k (some 39) rfl (by rfl) (.tmp 29) (.tmp 38) 62 rfl w1.heap.size 65 i0 _ 2 24 Try.underlying62 hi hz0 hz1 (by omega) hz2 rfl _ ds.length (ds.flatMap fdV) rfl hown5 (some ⟨w4.heap.size, 0, none⟩) 2 2 (([(7, [0]), (8, t.tag)] : List Fd).flatMap fdV) rfl rfl hsl5 (fdV_one _) n1 n2 hq5.size ?_; intro v6 w6 hown6 hg6; have hq6 := hq5.grown hg6 hq5.size (fun k hk => (hown5.lt k hk).1)
        refine hK.out _ _ (hq6) (fun hHeld => ?_)
        clear hK K
        try (first | (rw [put_some]; dsimp only [List.set]) | rw [put_none])
        refine rtake 11 _ (some 3) _ rfl rfl (by kernel_rfl) (by kernel_rfl) (by kernel_rfl) (fun _ _ _ h => h) (by rfl) hHeld (by intro w hS; go_simp; try with_reducible rfl) ?_
        try (first | (rw [put_some]; dsimp only [List.set]) | rw [put_none])
        refine wpAnyH_done (by kernel_rfl) ?_ _
        refine NoPanic.normal ?_
        rw [← List.flatMap_append, ← HE.out, HA.out] at hown6
        obtain ⟨A6, c6, rfl, _, hsl6⟩ := Sl.of_ownk hown6
        clear hown6 hown5 hown4 hown hsl5 hcv4 hcvT hHeld hcB hcT hb4 hb5 hg6
        go_wp2_with (go_at_call 36; refine (hjoin.out A6 c6 _ hsl6).mono ?_; rintro e w7 ⟨v7, rfl, hown7, hb7⟩)
        go_ret
        exact ⟨v7, rfl, own_mono hown7 (Nat.le_trans hb1.size hq6.size), (hb1.trans (hq6.mono hb1.size)).trans (hb7.mono (Nat.le_trans hb1.size hq6.size))⟩
      | true =>
        have HE := Lib.hid (show tokF t = ds ++ [(7, [1]), (8, t.tag)] by rw [HT.out, hbd]; rfl)
        have HA := Lib.hid (show ds.length + 2 = (tokF t).length by rw [HE.out, List.length_append]; rfl)
        rw [hbd] at hcB
        clear hbd
        go_wp2_with fail
        refine wp_region_noPanic ?_
        refine wp_region_held_drew (S := fun w' => Below w1.heap.size w1 w') (by kernel_rfl) (hb.drew) (fun hHeld => ?_)
        refine rtake 0 _ (some 29) _ rfl rfl (by kernel_rfl) (by kernel_rfl) (by kernel_rfl) (fun _ _ _ h => h) (by rfl) hHeld (by intro w hS; go_simp; try with_reducible rfl) ?_
        try (first | (rw [put_some]; dsimp only [List.set]) | rw [put_none])
        refine rtake 1 _ (some 30) _ rfl rfl (by kernel_rfl) (by kernel_rfl) (by kernel_rfl) (fun _ _ _ h => h) (by rfl) hHeld (by intro w hS; go_simp; try with_reducible rfl) ?_
        try (first | (rw [put_some]; dsimp only [List.set]) | rw [put_none])
        refine rtake 5 _ (some 34) _ rfl rfl (by kernel_rfl) (by kernel_rfl) (by kernel_rfl) (fun _ _ _ h => h) (by rfl) hHeld (by intro w hS; go_simp; try with_reducible rfl) ?_
        try (first | (rw [put_some]; dsimp only [List.set]) | rw [put_none])
        refine rtake 6 _ (some 35) _ rfl rfl (by kernel_rfl) (by kernel_rfl) (by kernel_rfl) (fun _ _ _ h => h) (by rfl) hHeld (by intro w hS; go_simp; try with_reducible rfl) ?_
        try (first | (rw [put_some]; dsimp only [List.set]) | rw [put_none])
        refine rtake 7 _ (some 36) _ rfl rfl (by kernel_rfl) (by kernel_rfl) (by kernel_rfl) (fun _ _ _ h => h) (by rfl) hHeld (by intro w hS; go_simp; try with_reducible rfl) ?_
        try (first | (rw [put_some]; dsimp only [List.set]) | rw [put_none])
        refine rtake 8 _ (some 37) _ rfl rfl (by kernel_rfl) (by kernel_rfl) (by kernel_rfl) (fun _ _ _ h => h) (by rfl) hHeld (by intro w hS; go_simp; try with_reducible rfl) ?_
        try (first | (rw [put_some]; dsimp only [List.set]) | rw [put_none])
        refine wpAnyH_ready (rs := [2]) (by kernel_rfl) (by simp) (AllReadyH.cons (o := _) rfl (fun K hK => ?_) AllReadyH.nil)
        refine step_alloc (some 31) rfl (by rfl) (.slice (some ⟨wr.heap.size, 0, none⟩) 1 1) (.cells (byts [1]).toArray 5) (by go_simp; try rfl) ?_; intro w4 hw4 hb4; have hq4 := hHeld.trans (hb4.mono hHeld.size); have hsl4 : Sl w4 (some ⟨wr.heap.size, 0, none⟩) 1 (byts [1]) := (by rw [hw4]; exact ⟨Rd.block (Go.heap_alloc_new wr.drew _), Nat.le_refl _, fun h => by cases h⟩); have hcv4 := conv_bytes hsl4 1 rfl; have hown4 := ownk_later hown ((Below.refl wr.heap.size wr).drew.trans hb4) (Nat.le_refl _); clear hw4 hsl4
        refine hK.out _ _ (hq4) (fun hHeld => ?_)
        clear hK K
        try (first | (rw [put_some]; dsimp only [List.set]) | rw [put_none])
        refine wpAnyH_ready (rs := [3]) (by kernel_rfl) (by simp) (AllReadyH.cons (o := _) rfl (fun K hK => ?_) AllReadyH.nil)
        go_simp
        refine hK.out _ _ (hHeld) (fun hHeld => ?_)
        clear hK K
        try (first | (rw [put_some]; dsimp only [List.set]) | rw [put_none])
        refine rtake 4 _ (some 33) _ rfl rfl (by kernel_rfl) (by kernel_rfl) (by kernel_rfl) (fun _ _ _ h => h) (by rfl) hHeld (by intro w hS; go_simp; try with_reducible rfl) ?_
        try (first | (rw [put_some]; dsimp only [List.set]) | rw [put_none])
        refine wpAnyH_ready (rs := [9]) (by kernel_rfl) (by simp) (AllReadyH.cons (o := _) rfl (fun K hK => ?_) AllReadyH.nil)
        refine step_alloc (some 38) rfl (by rfl) (.slice (some ⟨w4.heap.size, 0, none⟩) 2 2) (.cells (([(7, [1]), (8, t.tag)] : List Fd).flatMap fdV).toArray 65) (by go_simp; try rfl) ?_; intro w5 hw5 hb5; have hq5 := hHeld.trans (hb5.mono hHeld.size); have hsl5 : Sl w5 (some ⟨w4.heap.size, 0, none⟩) (2 * 2) (([(7, [1]), (8, t.tag)] : List Fd).flatMap fdV) := (by rw [hw5]; exact ⟨Rd.block (Go.heap_alloc_new w4 _), Nat.le_refl _, fun h => by cases h⟩); have hown5 := ownk_later hown4 hb5 (Nat.le_refl _); clear hw5
        refine hK.out _ _ (hq5) (fun hHeld => ?_)
        clear hK K
        try (first | (rw [put_some]; dsimp only [List.set]) | rw [put_none])
        refine wpAnyH_ready (rs := [10]) (by kernel_rfl) (by simp) (AllReadyH.cons (o := _) rfl (fun K hK => ?_) AllReadyH.nil)
        refine step_append_k (some 39) rfl (by rfl) (.tmp 29) (.tmp 38) 62 rfl w1.heap.size 65 i0 _ 2 24 Try.underlying62 hi hz0 hz1 (by omega) hz2 rfl _ ds.length (ds.flatMap fdV) rfl hown5 (some ⟨w4.heap.size, 0, none⟩) 2 2 (([(7, [1]), (8, t.tag)] : List Fd).flatMap fdV) rfl rfl hsl5 (fdV_one _) n1 n2 hq5.size ?_; intro v6 w6 hown6 hg6; have hq6 := hq5.grown hg6 hq5.size (fun k hk => (hown5.lt k hk).1)
        refine hK.out _ _ (hq6) (fun hHeld => ?_)
        clear hK K
        try (first | (rw [put_some]; dsimp only [List.set]) | rw [put_none])
        refine rtake 11 _ (some 3) _ rfl rfl (by kernel_rfl) (by kernel_rfl) (by kernel_rfl) (fun _ _ _ h => h) (by rfl) hHeld (by intro w hS; go_simp; try with_reducible rfl) ?_
        try (first | (rw [put_some]; dsimp only [List.set]) | rw [put_none])
        refine wpAnyH_done (by kernel_rfl) ?_ _
        refine NoPanic.normal ?_
        rw [← List.flatMap_append, ← HE.out, HA.out] at hown6
        obtain ⟨A6, c6, rfl, _, hsl6⟩ := Sl.of_ownk hown6
        clear hown6 hown5 hown4 hown hsl5 hcv4 hcvT hHeld hcB hcT hb4 hb5 hg6
        go_wp2_with (go_at_call 36; refine (hjoin.out A6 c6 _ hsl6).mono ?_; rintro e w7 ⟨v7, rfl, hown7, hb7⟩)
        go_ret
        exact ⟨v7, rfl, own_mono hown7 (Nat.le_trans hb1.size hq6.size), (hb1.trans (hq6.mono hb1.size)).trans (hb7.mono (Nat.le_trans hb1.size hq6.size))⟩
end Go.Proofs.Ythiebbhooigogaa
