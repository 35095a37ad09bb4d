/- LAYER 12: package addr: read. -/
import Derived.Test.YtpmibdgghojgaaaDoorAs
namespace Go.Proofs.YtpmibdgghojgaaaDoor
set_option maxRecDepth 100000
open Go Go.RowKit

/-- copy as one step of a region that draws its order; a source of no cells may be nil. -/
theorem step_copy_any {P : Program} {w : World} {ops : Array Oper} {o : Oper} {a : Act} {K : Act → World → Prop} {Q : Exit → Act → World → Prop} {E : Prop} (dst : Option Tmp) (hdst : o.dst = dst) (hgd : Region.wanted o (yielded ops a.tmps) = true) (d s : Operand) (dT sT : TypeId)
    (ho : o.op = .call { callee := .builtin .copy, args := #[d, s], argTypes := #[dT, sT] }) (elem : TypeId) (hu : P.underlying dT = some (.slice elem)) (hsz : (P.info? elem).map (·.size) = some 1)
    (g off dLen dCap : Nat) (sp : Option Addr) (sLen sCap : Nat) (hd : a.eval d = .slice (some ⟨g, off, none⟩) dLen dCap) (hs : a.eval s = .slice sp sLen sCap)
    (t : TypeId) (cur : List Value) (hg : Row w g t cur) (cs : List Value) (n : Nat) (hl : cs.length = n) (hn : n = Nat.min sLen dLen)
    (hpos : 0 < cs.length → ∃ ad, sp = some ad ∧ ∀ j v, cs[j]? = some v → w.cell? (ad.add j) = some v) (hfit : off + cs.length ≤ cur.length) (h1 : ∀ v ∈ cs, v.oneCell' = true)
    (h : ∀ w', Row w' g t (splice cur off cs) → w.grownBy w' (some g) → K (a.put dst (goInt n)) w') : if Region.wanted o (yielded ops a.tmps) = true then Oper.wp P o a w K Q else E := by
  by_cases h0 : cs.length = 0
  · obtain rfl : cs = [] := List.eq_nil_of_length_eq_zero h0
    obtain rfl : n = 0 := by simpa using hl.symm
    subst hdst
    rw [if_pos hgd]
    have hrun := run_copy_none (P := P) w dT sT o.type elem (some ⟨g, off, none⟩) sp dLen dCap sLen sCap hu hsz hn.symm
    unfold Oper.wp
    simp [execOp, ho, resolve, invoke, builtin, hd, hs, hrun, Result.andThen]
    exact h w (by simpa [splice] using hg) (grown_refl _ _)
  · obtain ⟨ad, rfl, hsrc⟩ := hpos (by omega)
    exact step_copy_row dst hdst hgd d s dT sT ho elem hu hsz g off dLen dCap ad sLen sCap hd hs t cur hg cs n hl hn hsrc hfit h1 h
def pad4 (f : List Nat) : List Nat := f.take 4 ++ List.replicate (4 - (f.take 4).length) 0
theorem pad4_len (f : List Nat) : (pad4 f).length = 4 := by unfold pad4; rw [List.length_append, List.length_replicate, List.length_take]; omega
theorem splice_pad4 (f : List Nat) : splice (List.replicate 4 (.int .u16 0)) 0 (hwV (f.take 4)) = hwV (pad4 f) := by
  unfold splice pad4
  rw [List.drop_replicate, length_hwV]
  unfold hwV
  rw [List.map_append, List.map_replicate, Nat.zero_add]
  rfl
def fourN (l : List Nat) : Adr := four4 (UInt8.ofNat (l.getD 0 0)) (UInt8.ofNat (l.getD 1 0)) (UInt8.ofNat (l.getD 2 0)) (UInt8.ofNat (l.getD 3 0))
/-- What package addr's read answers of a text. -/
def readF (s : List UInt8) : Adr := if 0 ≤ Lib.indexByte s 58 then readSixF s else fourN (pad4 (numsF 10 46 s))
theorem readSixF_ok (s : List UInt8) : (readSixF s).Ok := sixA_ok _ (padF_len _ _ (numsF_len _ _ _) (numsF_len _ _ _))
theorem readF_ok (s : List UInt8) : (readF s).Ok := by
  unfold readF
  split
  · exact readSixF_ok s
  · rfl
theorem readF_check (s : List UInt8) : checkA (readF s) = true := by
  unfold readF
  split
  · rfl
  · rfl
set_option maxHeartbeats 4000000 in
theorem aread_any (s : List UInt8) (hs : s.length ≤ 100000) (w : World) (hE : Env w) :
    Calls Tryd.prog 14 #[.string (bstr s)] w fun e w' => e = .returned (.agg (adrV (readF s)).toArray) ∧ Below w.heap.size w w' := by
  have hok := readF_ok s
  obtain ⟨V, hV⟩ : ∃ V, V = adrV (readF s) := ⟨_, rfl⟩
  obtain ⟨Z, hZ⟩ : ∃ Z, Z = adrV zeroA := ⟨_, rfl⟩
  have hsz := Lib.hid (show (Tryd.prog.info? 24).map (·.size) = some V.toArray.size by rw [hV, size_adr, List.size_toArray, length_adrV hok])
  have hV1 := Lib.hid (show V.toArray.all (·.oneCell') = true from all_one (by rw [hV]; exact adrV_one _))
  have hVs := Lib.hid (show Z.toArray.size = V.toArray.size by rw [hV, hZ, List.size_toArray, List.size_toArray, length_adrV zeroA_ok, length_adrV hok])
  have hct := Lib.hid (fun w' => Tryd.strings_Contains_one (bstr s) 58 w')
  obtain ⟨w1, hw1⟩ : ∃ w1, w1 = w.alloc (.cells (adrV zeroA).toArray 24) := ⟨_, rfl⟩
  have r1 : Row w1 w.heap.size 24 Z := by rw [hw1, hZ]; exact Row.new w _ _
  have hb1 : Below w.heap.size w w1 := by rw [hw1]; exact (Below.refl _ w).alloc (Nat.le_refl _) _
  have hE1 := hE.next hb1
  rw [← hV]
  by_cases h6 : 0 ≤ Lib.indexByte s 58
  · have h6' : decide (0 ≤ Lib.indexByte (bstr s).data.toList 58) = true := decide_eq_true h6
    rw [h6'] at hct
    have hrd := Lib.hid (fun w' hE => areadSix_any s hs w' hE)
    rw [show readSixF s = readF s by unfold readF; rw [if_pos h6], ← hV] at hrd
    clear hV hok hZ h6 h6' hE
    generalize bstr s = S at *
    go_enter Tryd.func14, Tryd.ntmps14
    go_wp2_with (first
      | (go_at_call 23; change Calls _ _ _ (w.alloc (.cells (adrV zeroA).toArray 24)) _; rw [← hw1]; clear hw1; refine (hct.out _).mono ?_; rintro e w2 ⟨rfl, rfl⟩)
      | (go_at_call 24; refine (hrd.out _ hE1).mono ?_; rintro e w7 ⟨rfl, hb7⟩; have r7 := r1.later hb7 r1.lt; have hb7 := hb1.trans (hb7.mono hb1.size); have H0 := Lib.hid (show w7.heap[w.heap.size]? = some (.cells Z.toArray 24 (0, 0)) from r7); clear r7)
      | (with_reducible refine wpList_store_row rfl 24 (.tmp 2) (.tmp 7) rfl w.heap.size V.toArray rfl rfl 24 Z.toArray H0.out hsz.out hVs.out hV1.out ?_; refine Hid.out ?_))
    refine Lib.hid ?_
    generalize hw8 : World.setRow _ _ _ = w8
    obtain ⟨r8, hg8⟩ := row_set (show Row w7 w.heap.size 24 Z from H0.out) hw8
    have hb8 := hb7.grown hg8 hb7.size (fun k h => by cases h; exact Nat.le_refl _)
    have R8 := Lib.hid (show w8.heap[w.heap.size]? = some (.cells V.toArray 24 (0, 0)) from r8)
    clear hw8 r8 hg8 H0
    go_wp2_with (with_reducible refine bodyPost_ret (results_cell_row rfl _ _ w.heap.size 24 V.toArray (0, 0) _ rfl R8.out Tryd.underlying24 rfl hsz.out) rfl ?_)
  · have h6' : decide (0 ≤ Lib.indexByte (bstr s).data.toList 58) = false := decide_eq_false h6
    rw [h6'] at hct
    have hn := Lib.hid (fun w' hE => show Calls Tryd.prog 25 #[.string (bstr s), .string ⟨#[46]⟩, .int .i64 10] w' (GaveNums (numsF 10 46 s) w') from anumbers_any 10 (.inl rfl) 46 s hs w' hE)
    have hnl := numsF_len 10 46 s
    have HF := Lib.hid (show readF s = fourN (pad4 (numsF 10 46 s)) by unfold readF; rw [if_neg h6])
    generalize numsF 10 46 s = f at *
    have hm1 := Lib.hid (show (hwV (f.take 4)).length = Nat.min f.length 4 by rw [length_hwV, List.length_take]; exact Nat.min_comm _ _)
    have hfit1 := Lib.hid (show 0 + (hwV (f.take 4)).length ≤ (List.replicate 4 (Value.int .u16 0)).length by rw [length_hwV, List.length_replicate, List.length_take]; omega)
    have hsp := Lib.hid (splice_pad4 f)
    have hp4 := pad4_len f
    obtain ⟨x0, hx0⟩ : ∃ x, x = UInt8.ofNat ((pad4 f).getD 0 0) := ⟨_, rfl⟩
    obtain ⟨x1, hx1⟩ : ∃ x, x = UInt8.ofNat ((pad4 f).getD 1 0) := ⟨_, rfl⟩
    obtain ⟨x2, hx2⟩ : ∃ x, x = UInt8.ofNat ((pad4 f).getD 2 0) := ⟨_, rfl⟩
    obtain ⟨x3, hx3⟩ : ∃ x, x = UInt8.ofNat ((pad4 f).getD 3 0) := ⟨_, rfl⟩
    have h4 := Lib.hid (fun w' => afour_any x0 x1 x2 x3 w')
    rw [show four4 x0 x1 x2 x3 = readF s by rw [HF.out, hx0, hx1, hx2, hx3]; rfl, ← hV] at h4
    have u8w : ∀ (n : Nat) (x : UInt8), x = UInt8.ofNat n → IntKind.u8.wrap (n : Int) = (x.toNat : Int) := fun n x h => by rw [h, UInt8.toNat_ofNat', IntKind.wrap_u8]; omega
    have hw0 := u8w _ _ hx0
    have hw1' := u8w _ _ hx1
    have hw2 := u8w _ _ hx2
    have hw3 := u8w _ _ hx3
    have hg0 := get_hwV (pad4 f) 0 (by omega)
    have hg1 := get_hwV (pad4 f) 1 (by omega)
    have hg2 := get_hwV (pad4 f) 2 (by omega)
    have hg3 := get_hwV (pad4 f) 3 (by omega)
    clear hx0 hx1 hx2 hx3 u8w
    generalize (pad4 f).getD 0 0 = n0 at *
    generalize (pad4 f).getD 1 0 = n1 at *
    generalize (pad4 f).getD 2 0 = n2 at *
    generalize (pad4 f).getD 3 0 = n3 at *
    have G0 := Lib.hid hg0
    have G1 := Lib.hid hg1
    have G2 := Lib.hid hg2
    have G3 := Lib.hid hg3
    clear hV hok hZ h6 h6' hE hg0 hg1 hg2 hg3 hp4
    generalize bstr s = S at *
    go_enter Tryd.func14, Tryd.ntmps14
    go_wp2_with (first
      | (go_at_call 23; change Calls _ _ _ (w.alloc (.cells (adrV zeroA).toArray 24)) _; rw [← hw1]; clear hw1; refine (hct.out _).mono ?_; rintro e w2 ⟨rfl, rfl⟩))
    obtain ⟨w3, hw3e⟩ : ∃ w3, w3 = w2.alloc (.cells (List.replicate 4 (.int .u16 0)).toArray 52) := ⟨_, rfl⟩
    have rl : Row w3 w2.heap.size 52 (List.replicate 4 (.int .u16 0)) := by rw [hw3e]; exact Row.new w2 _ _
    have hb3' : Below w2.heap.size w2 w3 := by rw [hw3e]; exact (Below.refl _ w2).alloc (Nat.le_refl _) _
    have hE3 := hE1.next hb3'
    have r3 := r1.later hb3' r1.lt
    have hb3 := hb1.trans (hb3'.mono hb1.size)
    have hlt3 := r1.lt
    change Code.wp _ _ _ _ (w2.alloc (.cells (List.replicate 4 (.int .u16 0)).toArray 52))
    rw [← hw3e]
    clear hw3e hct hb3'
    have HR := Lib.hid rl
    clear rl
    refine wp_region_noPanic ?_
    refine wp_region_held_drew (S := fun _ => True) (by kernel_rfl) (trivial) (fun hHeld => ?_)
    refine rtake 0 _ (some 8) _ rfl rfl (by kernel_rfl) (by kernel_rfl) (by kernel_rfl) (fun _ _ _ h => h) (by rfl) hHeld (by intro w hS; go_simp; try with_reducible rfl) ?_
    try (first | (rw [put_some]; dsimp only [List.set]) | rw [put_none])
    refine rtake 1 _ (some 9) _ rfl rfl (by kernel_rfl) (by kernel_rfl) (by kernel_rfl) (fun _ _ _ h => h) (by rfl) hHeld (by intro w hS; go_simp; try with_reducible rfl) ?_
    try (first | (rw [put_some]; dsimp only [List.set]) | rw [put_none])
    refine wpAnyH_ready (rs := [2]) (by kernel_rfl) (by simp) (AllReadyH.cons (o := _) rfl (fun K hK => ?_) AllReadyH.nil)
    go_simp
    refine (hn.out _ (hE3.next (Below.refl _ _).drew)).mono ?_; rintro e w5 ⟨v5, rfl, ho5, hb5⟩; obtain ⟨A5, k5, rfl, -, hs5⟩ := Sl.of_own ho5
    try go_wp2_with fail
    refine hK.out _ _ (trivial) (fun hHeld => ?_)
    clear hK K
    try (first | (rw [put_some]; dsimp only [List.set]) | rw [put_none])
    refine wpAnyH_ready (rs := [3]) (by kernel_rfl) (by simp) (AllReadyH.cons (o := _) rfl (fun K hK => ?_) AllReadyH.nil)
    have hs5' : Sl w5 A5 k5 (hwV (f.take 4)) := by unfold hwV; rw [List.map_take]; exact hs5.take
    refine step_copy_any (some 11) rfl (by rfl) (.tmp 8) (.tmp 10) 46 46 rfl 31 Tryd.underlying46 sizeU16 w2.heap.size 0 4 4 _ _ _ rfl rfl 52 _ (HR.out.drew.later hb5 HR.out.lt) (hwV (f.take 4)) _ rfl hm1.out hs5'.hpos hfit1.out (hwV_one _) ?_; intro w6 hr6 hg6
    refine hK.out _ _ (trivial) (fun _ => ?_)
    clear hK K
    try (first | (rw [put_some]; dsimp only [List.set]) | rw [put_none])
    refine wpAnyH_done (by kernel_rfl) ?_ _
    refine NoPanic.normal ?_
    rw [hsp.out] at hr6
    have c0 := (hr6.cell 0).trans G0.out
    have c1 := (hr6.cell 1).trans G1.out
    have c2 := (hr6.cell 2).trans G2.out
    have c3 := (hr6.cell 3).trans G3.out
    have r5 : Row w5 w.heap.size 24 Z := r3.drew.later hb5 r3.lt
    have r6 := r5.grown hg6 (by omega)
    have hb6 := (hb3.drew.trans (hb5.mono hb3.size)).grown hg6 (Nat.le_trans hb3.size hb5.size) (fun k h => by cases h; omega)
    clear hb5 ho5 hg6 r5 hs5 hs5' hHeld HR hr6 hm1 hfit1 hsp
    go_wp2_with (first
      | (go_at_call 13; refine (h4.out _).mono ?_; rintro e w7 ⟨rfl, hb7⟩; have r7 := r6.later hb7 r6.lt; have hb7 := hb6.trans (hb7.mono hb6.size); have H0 := Lib.hid (show w7.heap[w.heap.size]? = some (.cells Z.toArray 24 (0, 0)) from r7); clear r7)
      | (with_reducible refine wpList_store_row rfl 24 (.tmp 2) (.tmp 24) rfl w.heap.size V.toArray rfl rfl 24 Z.toArray H0.out hsz.out hVs.out hV1.out ?_; refine Hid.out ?_))
    refine Lib.hid ?_
    generalize hw8 : World.setRow _ _ _ = w8
    obtain ⟨r8, hg8⟩ := row_set (show Row w7 w.heap.size 24 Z from H0.out) hw8
    have hb8 := hb7.grown hg8 hb7.size (fun k h => by cases h; exact Nat.le_refl _)
    have R8 := Lib.hid (show w8.heap[w.heap.size]? = some (.cells V.toArray 24 (0, 0)) from r8)
    clear hw8 r8 hg8 H0
    go_wp2_with (with_reducible refine bodyPost_ret (results_cell_row rfl _ _ w.heap.size 24 V.toArray (0, 0) _ rfl R8.out Tryd.underlying24 rfl hsz.out) rfl ?_)
end Go.Proofs.YtpmibdgghojgaaaDoor
