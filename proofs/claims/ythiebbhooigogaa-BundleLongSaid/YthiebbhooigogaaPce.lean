/- LAYER 10: package packet: number, next, caveat. -/
import Derived.Test.YthiebbhooigogaaPcb
import Derived.Test.YthiebbhooigogaaPcr
import Derived.Test.YthiebbhooigogaaCv
import Derived.Test.YthiebbhooigogaaDc0
namespace Go.Proofs.Ythiebbhooigogaa
open Go Go.RowKit

theorem pnumber_any (f : Fd) (h : f.2.length ≤ 1000000) (w : World) :
    Calls Try.prog 64 #[.agg (fdV f).toArray] w fun e w' => e = .returned (.int .u64 (getL f.2).1) ∧ Below w.heap.size w w' := by
  obtain ⟨x, T⟩ := f
  have hb1 := (Below.refl w.heap.size w).alloc (Nat.le_refl _) (.cells (fdV (x, T)).toArray 55)
  obtain ⟨n, k, hG⟩ : ∃ n k, getL T = (n, k) := ⟨_, _, rfl⟩
  have hv := Lib.hid (show ∀ A c w1, Sl w1 A c (byts T) → Calls Try.prog 60 #[.slice A T.length c] w1 fun e w' => e = .returned (.tuple #[.int .u64 n, .int .i64 k]) ∧ Below w1.heap.size w1 w' by
    intro A c w1 hs
    have := vget_any A T.length c T w1 hs rfl h
    rw [hG] at this; exact this)
  have hE := Lib.hid (show (getL T).1 = n by rw [hG])
  dsimp only
  rw [hE.out]
  have hcs := size_bstr T
  unfold fdV at *
  dsimp only at *
  clear hG h
  go_enter Try.func64, Try.ntmps64
  go_wp2_with (first
    | (refine wpList_conv_string rfl (.tmp 7) rfl T rfl ?_; intro A6 c6 w6 hsl6 hb6; have hb6 := hb1.trans (hb6.mono hb1.size))
    | (go_at_call 60; refine (hv.out _ _ _ hsl6).mono ?_; rintro e w7 ⟨rfl, hb7⟩; have hb7 := hb6.trans (hb7.mono hb6.size)))
  go_ret
  exact ⟨rfl, hb7⟩
theorem field_ff (y : Int) (s : ByteArray) (w : World) : (Instr.field 55 (.agg #[.int .u8 y, .string s]) 1).run Try.prog w = .ok (.string s) w := by kernel_rfl
/-- Block g holds the bytes l: a slice that lies ahead of B. -/
def RowAt (w : World) (B g : Nat) (l : List UInt8) : Prop := ∃ A c, Row w g 107 [.slice A l.length c] ∧ Sl w A c (byts l) ∧ (0 < l.length → ∀ a, A = some a → a.block < B)
theorem RowAt.grown {w w' : World} {B g k : Nat} {l : List UInt8} (h : RowAt w B g l) (hg : w.grownBy w' (some k)) (hk : g ≠ k) (hB : B ≤ k) : RowAt w' B g l := by
  obtain ⟨A, c, h1, h2, h3⟩ := h
  exact ⟨A, c, h1.kept hg (fun j hj => by cases hj; exact hk), h2.apart hg (fun hl a ha => by rw [length_byts] at hl; have := h3 hl a ha; omega), h3⟩
theorem RowAt.below {w w' : World} {B g : Nat} {l : List UInt8} (h : RowAt w B g l) (hb : Below w.heap.size w w') : RowAt w' B g l := by
  obtain ⟨A, c, h1, h2, h3⟩ := h
  exact ⟨A, c, h1.later hb h1.lt, h2.later (Nat.le_refl _) hb, h3⟩
theorem RowAt.lt {w : World} {B g : Nat} {l : List UInt8} (h : RowAt w B g l) : g < w.heap.size := by
  obtain ⟨A, c, h1, _⟩ := h; exact h1.lt
theorem tail_run (A : Option Addr) (c : Nat) (l : List UInt8) (w0 : World) (h : Sl w0 A c (byts l)) (i : Nat) (hi : i ≤ l.length) :
    ∃ A' : Option Addr, (∀ w, (Instr.sliceAt 107 (.slice A l.length c) (some (.int .i64 i)) none none).run Try.prog w = .ok (.slice A' (l.drop i).length (c - i)) w) ∧
      Sl w0 A' (c - i) (byts (l.drop i)) ∧ (0 < (l.drop i).length → ∀ a, A' = some a → ∃ b, A = some b ∧ 0 < l.length ∧ a.block = b.block) := by
  have hr := h.room
  rw [length_byts] at hr
  rw [List.length_drop]
  cases A with
  | none =>
    have hc := h.bare rfl
    subst hc
    have hl : l.length = 0 := by omega
    obtain rfl : l = [] := List.eq_nil_of_length_eq_zero hl
    have ei : i = 0 := by simpa using hi
    subst ei
    clear hr hl hi
    refine ⟨none, fun w => ?_, h, fun _ a h => by cases h⟩
    clear h; go_simp
  | some a =>
    refine ⟨some (if c = i then a else a.add i), fun w => ?_, ?_, fun h0 b hb => ⟨a, rfl, by omega, ?_⟩⟩
    · have h3 : (i : Int) ≤ (l.length : Int) := by omega
      have h2 : (l.length : Int) ≤ (c : Int) := by omega
      clear h hr
      generalize l.length = n at *
      have h4 : ((n : Int) - (i : Int)).toNat = n - i := by omega
      have h5 : ((n - i : Nat) : Int) = (n : Int) - (i : Int) := by omega
      clear hi
      go_simp
      split <;> rfl
    · have eb : byts (l.drop i) = (byts l).drop i := by unfold byts; rw [List.map_drop]
      rw [eb]
      by_cases h0 : 0 < l.length
      · obtain ⟨b, o, he, _⟩ := h.rd.get (i := 0) (by rw [length_byts]; exact h0)
        cases he
        rw [Addr.add_lit]
        exact h.from (by rw [length_byts]; omega) rfl
      · obtain rfl : l = [] := List.eq_nil_of_length_eq_zero (by omega)
        exact ⟨.inl (by simp [byts]), by simp [byts], fun h => by cases h⟩
    · obtain ⟨b1, o1, he, _⟩ := h.rd.get (i := 0) (by rw [length_byts]; omega)
      cases he
      cases hb
      rw [Addr.add_lit]
      split <;> rfl
set_option maxRecDepth 20000 in
set_option maxHeartbeats 2000000 in
theorem pnext_any (g B : Nat) (l : List UInt8) (w : World) (hr : RowAt w B g l) (hB : B ≤ g) (hl : l.length ≤ 1000000) :
    Calls Try.prog 65 #[.pointer (some ⟨g, 0, none⟩)] w fun e w' => e = .returned (.agg (fdV (getF l).1).toArray) ∧ RowAt w' B g (restF l) ∧ w.grownBy w' (some g) := by
  obtain ⟨A, c, r0, hs, hA⟩ := hr
  have hlt := r0.lt
  obtain ⟨x, T, k, hG⟩ : ∃ x T k, getF l = ((x, T), k) := ⟨_, _, _, rfl⟩
  have hk : k ≤ l.length := by
    rcases getF_back l with h | h
    · rw [hG] at h; cases h; exact Nat.zero_le _
    · rw [hG] at h; exact h.2.1
  have hrest : restF l = l.drop k := by unfold restF; rw [hG]
  obtain ⟨A2, hcut, hsl2, hA2⟩ := tail_run A c l w hs k hk
  obtain ⟨V, hV⟩ : ∃ V, V = fdV (x, T) := ⟨_, rfl⟩
  have hget := Lib.hid (show ∀ w1, Sl w1 A c (byts l) → Calls Try.prog 55 #[.slice A l.length c] w1 fun e w' => e = .returned (.tuple #[.agg V.toArray, .int .i64 k, .bool (decide (0 < k))]) ∧ Below w1.heap.size w1 w' by
    intro w1 h
    have := fget_any A l.length c l w1 h rfl hl
    rw [hG] at this; rw [hV]; exact this)
  rw [hrest, hG]
  dsimp only
  rw [← hV]
  have hzV := Lib.hid (show (Try.prog.info? 55).map (·.size) = some V.toArray.size by rw [hV]; exact size_ff)
  have hV2 := Lib.hid (show (2 : Nat) = V.toArray.size by rw [hV]; rfl)
  have hof := Lib.hid (show V.toArray.all (·.oneCell') = true from all_one (fun v hv => fdV_one [(x, T)] v (by rw [hV] at hv; simpa using hv)))
  have c0 : w.cell? ⟨g, 0, none⟩ = some (.slice A l.length c) := by rw [r0.cell]; rfl
  have hb1 := (Below.refl w.heap.size w).alloc (Nat.le_refl _) (.cells #[.int .u8 0, .string { data := #[] }] 55)
  have hs1 := hs.later (Nat.le_refl _) hb1
  have rt1 : Row (w.alloc (.cells #[.int .u8 0, .string { data := #[] }] 55)) w.heap.size 55 [.int .u8 0, .string { data := #[] }] := Row.new w 55 _
  have HRt := Lib.hid hrest
  clear hG hrest hl hV
  generalize l.length = n at *
  generalize hm : (l.drop k).length = m at *
  have Hm := Lib.hid hm
  clear hm
  go_enter Try.func65, Try.ntmps65
  go_wp2_with (first
    | (go_at_call 55; refine (hget.out _ hs1).mono ?_; rintro e w2 ⟨rfl, hb2⟩)
    | (with_reducible refine wpList_store_row rfl 55 (.tmp 3) (.tmp 11) rfl w2.heap.size V.toArray rfl rfl 55 _ (heap_alloc_new w2 _) hzV.out (Eq.trans (by kernel_rfl) hV2.out) hof.out ?_; refine Hid.out ?_))
  refine Lib.hid ?_
  generalize hw3 : World.setRow _ _ _ = w3
  obtain ⟨r3, hb3⟩ := row_new_set (xs := V) hw3
  have hbw2 := hb1.trans (hb2.mono hb1.size)
  have hbw3 := hbw2.trans (hb3.mono hbw2.size)
  have rg3 := r0.later hbw3 hlt
  have rt3 := (rt1.later hb2 rt1.lt).later hb3 (Nat.lt_of_lt_of_le rt1.lt hb2.size)
  have c3 : w3.cell? ⟨g, 0, none⟩ = some (.slice A n c) := by rw [rg3.cell]; rfl
  have hfz3 := rg3.free 0
  have hne2 : w2.heap.size ≠ g := by have := hbw2.size; omega
  have hne1 : w.heap.size ≠ g := by omega
  have R3 := Lib.hid (show (w3.setCell ⟨g, 0, none⟩ (.slice A2 m (c - k))).heap[w2.heap.size]? = some (.cells V.toArray 55 (0, 0)) from r3.far _ _ hne2)
  have RT := Lib.hid (show (w3.setCell ⟨g, 0, none⟩ (.slice A2 m (c - k))).heap[w.heap.size]? = some (.cells #[.int .u8 0, .string { data := #[] }] 55 (0, 0)) from rt3.far _ _ hne1)
  have rg4 := rg3.set 0 (.slice A2 m (c - k))
  have hsl4 := (hsl2.later (Nat.le_refl _) hbw3).apart (grown_setCell w3 g 0 (.slice A2 m (c - k))) (fun h0 a ha => by
    obtain ⟨b, hb, hn0, he⟩ := hA2 (by rw [length_byts, Hm.out] at h0; exact h0) a ha
    have := hA hn0 b hb
    omega)
  have hA4 : 0 < m → ∀ a, A2 = some a → a.block < B := fun h0 a ha => by
    obtain ⟨b, hb, hn0, he⟩ := hA2 h0 a ha
    have := hA hn0 b hb
    omega
  have hg4 := grown_trans (grown_of_below hbw3 (some g)) (grown_setCell w3 g 0 (.slice A2 m (c - k)))
  clear hw3 hb1 hs1 rt1 r0 c0 hs hsl2 hA hA2 hget hk hb2 hb3 hbw2 r3 rt3 rg3
  go_wp2_with (first
    | (with_reducible refine wpList_load_row rfl 55 (.tmp 3) rfl w2.heap.size rfl 55 V.toArray (0, 0) _ R3.out Try.underlying55 rfl hzV.out ?_)
    | (with_reducible refine wpList_store_row rfl 55 (.tmp 2) (.tmp 21) rfl w.heap.size V.toArray rfl rfl 55 _ RT.out hzV.out (Eq.trans (by kernel_rfl) hV2.out) hof.out ?_; refine Hid.out ?_))
  refine Lib.hid ?_
  generalize hw9 : World.setRow _ _ _ = w9
  obtain ⟨r9, hg9⟩ := row_set (xs := V) (old := [.int .u8 0, .string { data := #[] }]) RT.out hw9
  have R9 := Lib.hid (show w9.heap[w.heap.size]? = some (.cells V.toArray 55 (0, 0)) from r9)
  have hrow : RowAt w9 B g (restF l) := by
    rw [HRt.out]
    refine ⟨A2, c - k, ?_, hsl4.apart hg9 (fun h0 a ha => by have := hA4 (by rw [length_byts, Hm.out] at h0; exact h0) a ha; omega), by rw [Hm.out]; exact hA4⟩
    rw [Hm.out]
    exact rg4.kept hg9 (fun j hj => by cases hj; exact fun e => hne1 e.symm)
  have hgE := grown_own hg4 hg9 (fun t h => by cases h; exact Nat.le_refl _)
  rw [HRt.out] at hrow
  clear hw9 r9 hg9 hg4 hsl4 hA4 rg4 hcut c3 hfz3 hne1 hne2 hbw3 R3 RT hV2 hof hlt hB
  go_wp2_with (with_reducible refine bodyPost_ret (results_cell_row rfl _ _ w.heap.size 55 V.toArray (0, 0) _ rfl R9.out Try.underlying55 rfl hzV.out) rfl ?_)
set_option maxRecDepth 20000 in
set_option maxHeartbeats 2000000 in
theorem pcaveat_any (g B : Nat) (f : Fd) (l : List UInt8) (w : World) (hr : RowAt w B g l) (hB : B ≤ g) (hl : l.length ≤ 1000000) (hf : f.2.length ≤ 1000000) :
    Calls Try.prog 66 #[.pointer (some ⟨g, 0, none⟩), .agg (fdV f).toArray] w fun e w' => e = .returned (.agg (cavV (cavL f l).1).toArray) ∧ RowAt w' B g (cavL f l).2 ∧ w.grownBy w' (some g) := by
  have hlt := hr.lt
  have hnum := Lib.hid (pnumber_any f hf)
  obtain ⟨x, T⟩ := f
  by_cases h3 : x = 3
  · subst h3
    have e : cavL (3, T) l = (⟨false, T, 0, [], []⟩, l) := by unfold cavL; rw [if_pos rfl]
    rw [e]
    have hb1 := (Below.refl w.heap.size w).alloc (Nat.le_refl _) (.cells (fdV (3, T)).toArray 55)
    unfold fdV cavV at *
    go_enter Try.func66, Try.ntmps66
    go_wp2
    refine bodyPost_ret (results_cell_row rfl _ _ (w.heap.size + 1) 51 #[.bool false, .string (bstr T), .int .u64 0, .string { data := #[] }, .string { data := #[] }] (0, 0) _ rfl (heap_alloc2_new w _ _) Try.underlying51 rfl size_cav) rfl ?_
    exact ⟨rfl, hr.below (hb1.alloc hb1.size _), grown_of_below (hb1.alloc hb1.size _) _⟩
  · obtain ⟨k1, id, h1⟩ : ∃ k1 id, (getF l).1 = (k1, id) := ⟨_, _, rfl⟩
    obtain ⟨k2, v, h2⟩ : ∃ k2 v, (getF (restF l)).1 = (k2, v) := ⟨_, _, rfl⟩
    have e : cavL (x, T) l = (⟨true, [], (getL T).1, id, v⟩, restF (restF l)) := by unfold cavL; rw [if_neg h3, h1, h2]
    rw [e]
    have hn1 := Lib.hid (show ∀ w1, RowAt w1 B g l → Calls Try.prog 65 #[.pointer (some ⟨g, 0, none⟩)] w1 fun e w' => e = .returned (.agg #[.int .u8 (k1.toNat : Int), .string (bstr id)]) ∧ RowAt w' B g (restF l) ∧ w1.grownBy w' (some g) by
      intro w1 h
      have := pnext_any g B l w1 h hB hl
      rw [h1] at this; exact this)
    have hn2 := Lib.hid (show ∀ w1, RowAt w1 B g (restF l) → Calls Try.prog 65 #[.pointer (some ⟨g, 0, none⟩)] w1 fun e w' => e = .returned (.agg #[.int .u8 (k2.toNat : Int), .string (bstr v)]) ∧ RowAt w' B g (restF (restF l)) ∧ w1.grownBy w' (some g) by
      intro w1 h
      have := pnext_any g B (restF l) w1 h hB (restF_len _ _ hl)
      rw [h2] at this; exact this)
    have hx3 : ((x.toNat : Int) == 3) = false := kind_ne x 3 h3
    have hb1 := (Below.refl w.heap.size w).alloc (Nat.le_refl _) (.cells (fdV (x, T)).toArray 55)
    have hb2 := hb1.alloc hb1.size (.cells #[.bool false, .string { data := #[] }, .int .u64 0, .string { data := #[] }, .string { data := #[] }] 51)
    have rt2 := heap_alloc2_new w (.cells (fdV (x, T)).toArray 55) (.cells #[.bool false, .string { data := #[] }, .int .u64 0, .string { data := #[] }, .string { data := #[] }] 51)
    dsimp only at hnum
    generalize (getL T).1 = m at *
    clear h1 h2 h3 e hf hl
    unfold fdV at *
    dsimp only at *
    generalize (x.toNat : Int) = y at *
    have hlt2 := (Array.getElem?_eq_some_iff.1 rt2).1
    go_enter Try.func66, Try.ntmps66
    go_wp2_with (first
      | (go_at_call 64; refine (hnum.out _).mono ?_; rintro e w3 ⟨rfl, hb3⟩)
      | (with_reducible refine wpList_store_row rfl 51 (.tmp 5) (.tmp 14) rfl w3.heap.size _ rfl rfl 51 _ (heap_alloc_new w3 _) (by kernel_rfl) (by kernel_rfl) (by kernel_rfl) ?_; refine Hid.out ?_))
    refine Lib.hid ?_
    generalize hw4 : World.setRow _ _ _ = w4
    obtain ⟨r4, hb4⟩ := row_new_set (xs := [.bool true, .string { data := #[] }, .int .u64 m, .string { data := #[] }, .string { data := #[] }]) hw4
    have hbw3 := hb2.trans (hb3.mono hb2.size)
    have hbw4 := hbw3.trans (hb4.mono hbw3.size)
    have rt4 : Row w4 (w.heap.size + 1) 51 [.bool false, .string { data := #[] }, .int .u64 0, .string { data := #[] }, .string { data := #[] }] := (Row.later (show Row _ _ _ _ from rt2) hb3 hlt2).later hb4 (Nat.lt_of_lt_of_le hlt2 hb3.size)
    have hr4 := hr.below hbw4
    have hs4 : w.heap.size + 1 < w3.heap.size := Nat.lt_of_lt_of_le hlt2 hb3.size
    clear hw4 hnum hx3 rt2 hb1 hb2 hb3 hb4 hbw3 hlt2
    obtain ⟨b5, hb5⟩ : ∃ b5, b5 = w3.heap.size := ⟨_, rfl⟩
    rw [← hb5] at r4 hs4 ⊢
    clear hb5
    have hne5 : b5 ≠ g := by omega
    have hne6 : b5 ≠ w.heap.size + 1 := by omega
    have hne7 : w.heap.size + 1 ≠ g := by omega
    have hne8 : w.heap.size ≤ b5 := by omega
    have hg4 := grown_of_below hbw4 (some g)
    clear hs4
    have hfd1 := field_ff (k1.toNat : Int) (bstr id)
    have hfd2 := field_ff (k2.toNat : Int) (bstr v)
    obtain ⟨V7, hV7⟩ : ∃ V7, V7 = cavV ⟨true, [], m, id, v⟩ := ⟨_, rfl⟩
    have hz7 := Lib.hid (show (Try.prog.info? 51).map (·.size) = some V7.toArray.size by rw [hV7]; exact size_cav)
    have h57 := Lib.hid (show (5 : Nat) = V7.toArray.size by rw [hV7]; rfl)
    have ho7 := Lib.hid (show V7.toArray.all (·.oneCell') = true from all_one (fun u hu => cavV_one [⟨true, [], m, id, v⟩] u (by rw [hV7] at hu; simpa using hu)))
    have HV7 := Lib.hid hV7
    clear hV7
    have tok1 : True := trivial
    have tok2 : True := trivial
    have hBb : B ≤ b5 := by omega
    have HB2 := Lib.hid (show B ≤ w.heap.size + 1 by omega)
    go_wp2_with (first
      | (have _t := tok1; go_at_call 65; refine (hn1.out _ hr4).mono ?_; rintro e w5 ⟨rfl, hr5, hg5⟩; have r5 := Row.kept r4 hg5 (fun j hj => by cases hj; exact hne5); have rt5 := Row.kept rt4 hg5 (fun j hj => by cases hj; exact hne7); have hz5 := r5.free 3; have hc5 : w5.cell? ⟨b5, 3, none⟩ = some (.string { data := #[] }) := (by rw [r5.cell]; rfl); have hg5' := grown_own (grown_trans hg4 hg5) (grown_setCell w5 b5 3 (.string (bstr id))) (fun t h => by cases h; exact hne8); have r5' := r5.set 3 (.string (bstr id)); have rt5' := rt5.far ⟨b5, 3, none⟩ (.string (bstr id)) (fun e => hne6 e.symm); have hr5' := hr5.grown (grown_setCell w5 b5 3 (.string (bstr id))) (fun e => hne5 e.symm) hBb; clear tok1)
      | (have _t := tok2; go_at_call 65; refine (hn2.out _ hr5').mono ?_; rintro e w6 ⟨rfl, hr6, hg6⟩; have r6 := Row.kept r5' hg6 (fun j hj => by cases hj; exact hne5); have rt6 := Row.kept rt5' hg6 (fun j hj => by cases hj; exact hne7); have hz6 := r6.free 4; have hc6 : w6.cell? ⟨b5, 4, none⟩ = some (.string { data := #[] }) := (by rw [r6.cell]; rfl); have hg6' := grown_own (grown_trans hg5' hg6) (grown_setCell w6 b5 4 (.string (bstr v))) (fun t h => by cases h; exact hne8); have r6' := r6.set 4 (.string (bstr v)); have rt6' := rt6.far ⟨b5, 4, none⟩ (.string (bstr v)) (fun e => hne6 e.symm); have hr6' := hr6.grown (grown_setCell w6 b5 4 (.string (bstr v))) (fun e => hne5 e.symm) hBb; have R6 := Lib.hid (show (w6.setCell ⟨b5, 4, none⟩ (.string (bstr v))).heap[b5]? = some (.cells V7.toArray 51 (0, 0)) by rw [HV7.out]; exact r6'); have RT6 := Lib.hid (show (w6.setCell ⟨b5, 4, none⟩ (.string (bstr v))).heap[w.heap.size + 1]? = some (.cells #[.bool false, .string { data := #[] }, .int .u64 0, .string { data := #[] }, .string { data := #[] }] 51 (0, 0)) from rt6'); clear tok2)
      | (with_reducible refine wpList_load_row rfl 51 (.tmp 5) rfl b5 rfl 51 V7.toArray (0, 0) _ R6.out Try.underlying51 rfl hz7.out ?_)
      | (with_reducible refine wpList_store_row rfl 51 (.tmp 4) (.tmp 23) rfl (w.heap.size + 1) V7.toArray rfl rfl 51 _ RT6.out hz7.out (Eq.trans (by kernel_rfl) h57.out) ho7.out ?_; refine Hid.out ?_))
    refine Lib.hid ?_
    generalize hw9 : World.setRow _ _ _ = w9
    obtain ⟨r9, hg9⟩ := row_set (xs := V7) (old := [.bool false, .string { data := #[] }, .int .u64 0, .string { data := #[] }, .string { data := #[] }]) RT6.out hw9
    have hrE := hr6'.grown hg9 (fun e => hne7 e.symm) HB2.out
    have hgE := grown_own hg6' hg9 (fun t h => by cases h; exact Nat.le_succ _)
    have R9 := Lib.hid (show w9.heap[w.heap.size + 1]? = some (.cells V7.toArray 51 (0, 0)) from r9)
    clear hw9 r9 hg9 hr6' hg6' R6 RT6 r6' rt6' hz6 hc6 hr6 hg6 r6 rt6 hz5 hc5 hg5' r5' rt5' hr5' r5 rt5 hr5 hg5
    go_wp2_with (with_reducible refine bodyPost_ret (results_cell_row rfl _ _ (w.heap.size + 1) 51 V7.toArray (0, 0) _ rfl R9.out Try.underlying51 rfl hz7.out) rfl ?_)
    exact ⟨by rw [HV7.out], hrE, hgE⟩
end Go.Proofs.Ythiebbhooigogaa
