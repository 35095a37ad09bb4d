/- LAYER 12, AddrTells, proved: for any address and any text, and every state of memory in which the library's listed variables lie as its text lays them, the call returns true and turns nothing that was there: whether the address can be, its text, and what address a text is, are the document's. Conditions: the library's tables and sentinels as laid (the card ties them to the program's text). -/
import Derived.Test.YtpmibdgghojgaaaDoorAv
import Derived.Test.YtpmibdgghojgaaaDoorIo
import Derived.Test.YtpmibdgghojgaaaDoorK
import Derived.Test.YtpmibdgghojgaaaDoorCards
import Derived.Test.YtpmibdgghojgaaaDoorTie
import Derived.Test.YtpmibdgghojgaaaDoorAd3
import Derived.Test.YtpmibdgghojgaaaDoorAd0
import Derived.Stop.LaidErr
import Derived.Shelf.Vars
/- LAYER 12: the law's addrAlive; addresses compared. -/
namespace Go.Proofs.YtpmibdgghojgaaaDoor
set_option maxRecDepth 100000
open Go Go.RowKit

theorem text_ex1 : textA (sixA [8193, 3512, 0, 0, 0, 0, 0, 1]) = [50, 48, 48, 49, 58, 100, 98, 56, 58, 58, 49] := by decide +kernel
theorem text_ex2 : textA (sixA [0, 0, 0, 0, 0, 0, 0, 0]) = [58, 58] := by decide +kernel
set_option maxHeartbeats 2000000 in
theorem addrAlive_any (w : World) (hE : Env w) : Calls Tryd.prog 5 #[] w fun e w' => e = .returned (.bool true) ∧ Below w.heap.size w w' := by
  have h1 := Lib.hid (fun w' => show Calls Tryd.prog 12 #[.agg #[.int .u16 8193, .int .u16 3512, .int .u16 0, .int .u16 0, .int .u16 0, .int .u16 0, .int .u16 0, .int .u16 1]] w' _ from asix_any [8193, 3512, 0, 0, 0, 0, 0, 1] rfl (by decide) w')
  have h2 := Lib.hid (fun w' => show Calls Tryd.prog 12 #[.agg #[.int .u16 0, .int .u16 0, .int .u16 0, .int .u16 0, .int .u16 0, .int .u16 0, .int .u16 0, .int .u16 0]] w' _ from asix_any [0, 0, 0, 0, 0, 0, 0, 0] rfl (by decide) w')
  have t1 := Lib.hid (fun w' hE => atext_any (sixA [8193, 3512, 0, 0, 0, 0, 0, 1]) (sixA_ok _ rfl) w' hE)
  have t2 := Lib.hid (fun w' hE => atext_any (sixA [0, 0, 0, 0, 0, 0, 0, 0]) (sixA_ok _ rfl) w' hE)
  rw [text_ex1] at t1
  rw [text_ex2] at t2
  generalize adrV (sixA [8193, 3512, 0, 0, 0, 0, 0, 1]) = V1 at *
  generalize adrV (sixA [0, 0, 0, 0, 0, 0, 0, 0]) = V2 at *
  have e1 : ((bstr [50, 48, 48, 49, 58, 100, 98, 56, 58, 58, 49]).toList == [50, 48, 48, 49, 58, 100, 98, 56, 58, 58, 49]) = true := by rw [bstr_toList]; rfl
  have e2 : ((bstr [58, 58]).toList == [58, 58]) = true := by rw [bstr_toList]; rfl
  have tok1 : True := trivial
  have tok2 : True := trivial
  go_enter Tryd.func5, Tryd.ntmps5
  go_wp2_with (first
    | (go_at_call 12; have _t := tok1; refine (h1.out _).mono ?_; rintro e w2 ⟨rfl, hb2⟩; have hE2 := hE.next hb2; clear h1 tok1)
    | (go_at_call 12; refine (h2.out _).mono ?_; rintro e w4 ⟨rfl, hb4⟩; have hE4 := hE3.next hb4; have hb4 := hb3.trans (hb4.mono hb3.size); clear h2)
    | (go_at_call 10; have _t := tok2; refine (t1.out _ hE2).mono ?_; rintro e w3 ⟨rfl, hb3⟩; have hE3 := hE2.next hb3; have hb3 := hb2.trans (hb3.mono hb2.size); clear t1 tok2)
    | (go_at_call 10; refine (t2.out _ hE4).mono ?_; rintro e w5 ⟨rfl, hb5⟩; have hb5 := hb4.trans (hb5.mono hb4.size)))
  go_ret
  exact ⟨rfl, hb5⟩
theorem part_v6 (a : Adr) (w : World) : (Go.part 4 (adrV a).toArray 0).run Tryd.prog w = .ok (.bool a.v6) w := by
  simp only [Go.part, isAgg, Sem.run_bind, run_underlying Tryd.underlying4, Result.andThen_ok, Sem.run_pure]
  rfl
theorem isAgg16 (w : World) : (isAgg 22).run Tryd.prog w = .ok true w := by kernel_rfl
theorem sizeOf16 (w : World) : (sizeOf 22).run Tryd.prog w = .ok 16 w := by kernel_rfl
theorem part_b (a : Adr) (h : a.Ok) (w : World) : (Go.part 22 (adrV a).toArray 1).run Tryd.prog w = .ok (.agg (byts a.b).toArray) w := by
  have e : (adrV a).toArray.extract 1 17 = (byts a.b).toArray := by
    rw [List.extract_toArray]
    unfold adrV
    congr 1
    show (byts a.b).take 16 = byts a.b
    exact List.take_of_length_le (by rw [length_byts, h]; exact Nat.le_refl _)
  simp only [Go.part, Sem.run_bind, isAgg16, Result.andThen_ok, if_true, sizeOf16, Sem.run_pure]
  rw [e]
theorem run_items_d (d : Nat) (xs ys : List UInt8) (is : List Nat) (hx : ∀ i ∈ is, i < xs.length) (hy : ∀ i ∈ is, i < ys.length) (w : World) :
    (Op.eqItems (d + 1) 5 1 (byts xs).toArray (byts ys).toArray is).run Tryd.prog w = .ok (is.all fun i => decide (xs.getD i 0 = ys.getD i 0)) w := by
  induction is with
  | nil => simp [Op.eqItems]
  | cons i is ih =>
    have h := ih (fun j hj => hx j (by simp [hj])) (fun j hj => hy j (by simp [hj]))
    simp only [Op.eqItems, Sem.run_bind, part_byte xs i (hx i (by simp)) w, part_byte ys i (hy i (by simp)) w, Result.andThen_ok, run_equalIn_int w d 5 .u8 .u8 _ _ Tryd.underlying5, List.all_cons]
    generalize xs.getD i 0 = a
    generalize ys.getD i 0 = b
    by_cases e : a = b
    · subst e
      simp only [BEq.rfl, Bool.not_true, Bool.false_eq_true, if_false, decide_true, Bool.true_and, h]
    · have e' : ((a.toNat : Int) == (b.toNat : Int)) = false := by
        rw [beq_eq_false_iff_ne]
        intro h
        exact e (UInt8.toNat_inj.1 (by omega))
      simp only [e', e, Bool.not_false, if_true, decide_false, Bool.false_and, Sem.run_pure]
/-- Two addresses, compared. -/
theorem eq_adr (a b : Adr) (ha : a.Ok) (hb : b.Ok) (w : World) : (Op.equalIn 10000 24 (.agg (adrV a).toArray) (.agg (adrV b).toArray)).run Tryd.prog w = .ok (a.v6 == b.v6 && decide (a.b = b.b)) w := by
  rw [run_equalIn_struct w 9999 24 _ _ (by kernel_rfl) (by kernel_rfl)]
  obtain ⟨i0, hi, _⟩ := info_parts infoByte
  have h16 : (Op.equalIn 9999 22 (.agg (byts a.b).toArray) (.agg (byts b.b).toArray)).run Tryd.prog w = .ok (decide (a.b = b.b)) w := by
    rw [run_equalIn_array w 9998 _ _ Tryd.underlying22 hi, cells_byte, run_items_d 9997 a.b b.b (List.range 16) (fun i h => by rw [ha]; simpa using h) (fun i h => by rw [hb]; simpa using h) w]
    have := all_getD a.b b.b (by rw [ha, hb])
    rw [ha] at this
    rw [this]
  have hb4 := run_equalIn_bool' (P := Tryd.prog) w 9998 4 a.v6 b.v6 Tryd.underlying4
  cases hv : (a.v6 == b.v6) <;> cases hd : decide (a.b = b.b) <;> rw [hv] at hb4 <;> rw [hd] at h16 <;>
    simp [Program.fieldsOf, Tryd.underlying24, Op.eqFields, Sem.run_bind, part_v6, part_b a ha, part_b b hb, hb4, h16]
end Go.Proofs.YtpmibdgghojgaaaDoor

/- LAYER 12: the document's Parse. -/
namespace Go.Proofs.YtpmibdgghojgaaaDoor
set_option maxRecDepth 100000
open Go Go.RowKit

theorem rparse_any (s : List UInt8) (hs : s.length ≤ 1000) (w : World) :
    Calls Tryd.prog 7 #[.string (bstr s)] w fun e w' => e = .returned (parsV (parseL s)) ∧ Below w.heap.size w w' := by
  unfold parseL
  cases hn : numbersL 10 3 255 46 s with
  | none =>
    cases hf : findC s with
    | none => exact rparse_plainA s hs hn hf w
    | some k => exact rparse_cutA s hs hn k hf w
  | some l =>
    by_cases h4 : l.length = 4
    · simp only [if_pos h4]
      exact rparse_four s hs l hn h4 w
    · simp only [if_neg h4]
      cases hf : findC s with
      | none => exact rparse_plainB s hs l hn h4 hf w
      | some k => exact rparse_cutB s hs l hn h4 k hf w
end Go.Proofs.YtpmibdgghojgaaaDoor

/- LAYER 12, AddrTells: the walk of the law. -/
namespace Go.Proofs.YtpmibdgghojgaaaDoor
set_option maxRecDepth 100000
open Go Go.RowKit

/-- What both Parse answer, written out. -/
theorem pars_out (s : List UInt8) : ∃ (a : Adr) (b : Bool), a.Ok ∧ parsV (parseL s) = .tuple #[.agg (adrV a).toArray, .bool b] := by
  cases hp : parseL s with
  | none => exact ⟨zeroA, false, zeroA_ok, rfl⟩
  | some a => exact ⟨a, true, ((parseL_iff s a).1 hp).1, rfl⟩
set_option maxHeartbeats 4000000 in
theorem atells_walk (a : Adr) (ha : a.Ok) (s : List UInt8) (w : World) (hE : Env w) :
    Calls Tryd.prog 3 #[.agg (adrV a).toArray, .string (bstr s)] w fun e w' => e = .returned (.bool true) ∧ Below w.heap.size w w' := by
  have hal := Lib.hid (fun w' hE => addrAlive_any w' hE)
  have hzs := size_bstr s
  obtain ⟨V, hV⟩ : ∃ V, V = adrV a := ⟨_, rfl⟩
  obtain ⟨w1, hw1⟩ : ∃ w1, w1 = w.alloc (.cells V.toArray 24) := ⟨_, rfl⟩
  have r1 : Row w1 w.heap.size 24 V := by rw [hw1]; exact Row.new w _ _
  have hb1 : Below w.heap.size w w1 := by rw [hw1]; exact (Below.refl _ w).alloc (Nat.le_refl _) _
  have hE1 := hE.next hb1
  rw [← hV]
  have HV := Lib.hid hV
  by_cases h5 : 500 < s.length
  · have h5' : (500 : Int) < (s.length : Int) := by omega
    clear hV HV r1 hE h5
    generalize s.length = n at *
    generalize bstr s = S at *
    go_enter Tryd.func3, Tryd.ntmps3
    go_wp2_with (go_at_call 5; rw [← hw1]; clear hw1; refine (hal.out _ hE1).mono ?_; rintro e w2 ⟨rfl, hb2⟩)
    go_ret
    exact ⟨rfl, hb1.trans (hb2.mono hb1.size)⟩
  · have h5' : (s.length : Int) ≤ 500 := by omega
    obtain ⟨x, bx, hx, hpx⟩ := pars_out s
    have hpa := Lib.hid (fun w' hE => aparse_any s (by omega) w' hE)
    have hpr := Lib.hid (fun w' => rparse_any s (by omega) w')
    rw [hpx] at hpa hpr
    have hck := Lib.hid (fun w' => acheck_any a ha w')
    have hrck := Lib.hid (fun w' => rcheckA_any a ha w')
    have htx := Lib.hid (fun w' hE => atext_any a ha w' hE)
    have hrtx := Lib.hid (fun w' => rtextA_any a ha w')
    rw [← hV] at hck hrck htx hrtx
    obtain ⟨X, hX⟩ : ∃ X, X = adrV x := ⟨_, rfl⟩
    rw [← hX] at hpa hpr
    have hEq : ∀ w, (Op.equalIn 10000 24 (.agg X.toArray) (.agg X.toArray)).run Tryd.prog w = .ok true w := by
      intro w; rw [hX, eq_adr x x hx hx w]; simp
    have hzV := Lib.hid (show (Tryd.prog.info? 24).map (·.size) = some V.length by rw [hV, size_adr, length_adrV ha])
    have hzX := Lib.hid (show (Tryd.prog.info? 24).map (·.size) = some X.length by rw [hX, size_adr, length_adrV hx])
    have hzX2 := Lib.hid (show (Tryd.prog.info? 24).map (·.size) = some X.toArray.size by rw [hX, size_adr, List.size_toArray, length_adrV hx])
    have h17 := Lib.hid (show (17 : Nat) = X.toArray.size by rw [hX, List.size_toArray, length_adrV hx])
    have hX1 := Lib.hid (show X.toArray.all (·.oneCell') = true from all_one (by rw [hX]; exact adrV_one _))
    clear hV HV hX hE hx hpx h5
    generalize checkA a = ck at *
    generalize textA a = tx at *
    generalize bstr tx = TX at *
    generalize s.length = n at *
    generalize bstr s = S at *
    go_enter Tryd.func3, Tryd.ntmps3
    go_wp2_with (first
      | (go_at_call 5; rw [← hw1]; clear hw1; refine (hal.out _ hE1).mono ?_; rintro e w2 ⟨rfl, hb2⟩; have hE2 := hE1.next hb2; have r2 := r1.later hb2 r1.lt; have hb2 := hb1.trans (hb2.mono hb1.size))
      | (go_at_call 6; refine (hpa.out _ hE2).mono ?_; rintro e w3 ⟨rfl, hb3⟩; have hE3 := hE2.next hb3; have r3 := r2.later hb3 r2.lt; have hb3 := hb2.trans (hb3.mono hb2.size))
      | (have _t := hE3; refine wpList_store_row rfl 24 (.tmp 5) (.tmp 17) rfl w3.heap.size X.toArray rfl rfl 24 _ (heap_alloc_new w3 _) hzX2.out h17.out hX1.out ?_; refine Hid.out ?_))
    refine Lib.hid ?_
    generalize hw4 : World.setRow _ _ _ = w4
    obtain ⟨r5, hb4'⟩ := row_new_set (xs := X) hw4
    have hE4 := hE3.next hb4'
    have r4 := r3.later hb4' r3.lt
    have hb4 := hb3.trans (hb4'.mono hb3.size)
    clear hw4 hb4' r2 r3
    go_wp2_with (first
      | (go_at_call 7; refine (hpr.out _).mono ?_; rintro e w6 ⟨rfl, hb6⟩; have hE6 := hE4.next hb6; have r6 := r4.later hb6 r4.lt; have r5 := r5.later hb6 r5.lt; have hb6 := hb4.trans (hb6.mono hb4.size))
      | (have _t := hE6; refine wpList_store_row rfl 24 (.tmp 7) (.tmp 22) rfl w6.heap.size X.toArray rfl rfl 24 _ (heap_alloc_new w6 _) hzX2.out h17.out hX1.out ?_; refine Hid.out ?_))
    refine Lib.hid ?_
    generalize hw7 : World.setRow _ _ _ = w7
    obtain ⟨r7, hb7'⟩ := row_new_set (xs := X) hw7
    have hE7 := hE6.next hb7'
    have r1 := r6.later hb7' r6.lt
    have r5 := r5.later hb7' r5.lt
    have hb7 := hb6.trans (hb7'.mono hb6.size)
    clear hw7 hb7' r4 r6
    go_wp2
    refine wp_region_noPanic ?_
    refine wp_region_held_drew (S := fun w' => Below w7.heap.size w7 w') (by kernel_rfl) ((Below.refl _ _).drew) (fun hHeld => ?_)
    have hB := hHeld
    refine rtake 0 _ (some 24) _ rfl rfl (by kernel_rfl) (by kernel_rfl) (by kernel_rfl) (fun _ _ _ h => h) (by rfl) hHeld (by intro w hS; exact run_load_op 24 (.tmp 2) rfl _ 0 rfl V _ (row_range (r1.later hS r1.lt)) Tryd.underlying24 rfl hzV.out) ?_
    try (first | (rw [put_some]; dsimp only [List.set]) | rw [put_none])
    refine rtake 2 _ (some 26) _ rfl rfl (by kernel_rfl) (by kernel_rfl) (by kernel_rfl) (fun _ _ _ h => h) (by rfl) hHeld (by intro w hS; exact run_load_op 24 (.tmp 2) rfl _ 0 rfl V _ (row_range (r1.later hS r1.lt)) Tryd.underlying24 rfl hzV.out) ?_
    try (first | (rw [put_some]; dsimp only [List.set]) | rw [put_none])
    refine wpAnyH_ready (rs := [1]) (by kernel_rfl) (by simp) (AllReadyH.cons (o := _) rfl (fun K hK => ?_) AllReadyH.nil)
    go_simp
    refine (hck.out _).mono ?_; rintro e ww71 ⟨rfl, hqw71⟩
    try go_wp2_with fail
    refine hK.out _ _ (hHeld.trans (hqw71.mono hHeld.size)) (fun hHeld' => ?_)
    clear hK K
    try (first | (rw [put_some]; dsimp only [List.set]) | rw [put_none])
    have hB := below_step hB hqw71
    have hB1 : Below ww71.heap.size ww71 ww71 := Below.refl _ _
    refine wpAnyH_narrow (S' := fun w' => Below ww71.heap.size ww71 w') (fun _ h => (hHeld.trans (hqw71.mono hHeld.size)).trans (h.mono (hHeld.trans (hqw71.mono hHeld.size)).size)) _ _ _ _ ?_
    clear hHeld
    have hHeld : Below ww71.heap.size ww71 ww71 := Below.refl _ _
    refine wpAnyH_ready (rs := [3]) (by kernel_rfl) (by simp) (AllReadyH.cons (o := _) rfl (fun K hK => ?_) AllReadyH.nil)
    go_simp
    refine (hrck.out _).mono ?_; rintro e ww73 ⟨rfl, hqw73⟩
    try go_wp2_with fail
    refine hK.out _ _ (hHeld.trans (hqw73.mono hHeld.size)) (fun hHeld' => ?_)
    clear hK K
    try (first | (rw [put_some]; dsimp only [List.set]) | rw [put_none])
    have hB := below_step hB hqw73
    have hB1 := below_step hB1 hqw73
    have hB3 : Below ww73.heap.size ww73 ww73 := Below.refl _ _
    refine wpAnyH_narrow (S' := fun w' => Below ww73.heap.size ww73 w') (fun _ h => (hHeld.trans (hqw73.mono hHeld.size)).trans (h.mono (hHeld.trans (hqw73.mono hHeld.size)).size)) _ _ _ _ ?_
    clear hHeld
    have hHeld : Below ww73.heap.size ww73 ww73 := Below.refl _ _
    refine rtake 4 _ (some 28) _ rfl rfl (by kernel_rfl) (by kernel_rfl) (by kernel_rfl) (fun _ _ _ h => h) (by rfl) hHeld (by intro w hS; go_simp; try with_reducible rfl) ?_
    try (first | (rw [put_some]; dsimp only [List.set]) | rw [put_none])
    refine rtake 5 _ (some 29) _ rfl rfl (by kernel_rfl) (by kernel_rfl) (by kernel_rfl) (fun _ _ _ h => h) (by rfl) hHeld (by intro w hS; go_simp; try with_reducible rfl) ?_
    try (first | (rw [put_some]; dsimp only [List.set]) | rw [put_none])
    refine rtake 6 _ (some 30) _ rfl rfl (by kernel_rfl) (by kernel_rfl) (by kernel_rfl) (fun _ _ _ h => h) (by rfl) hHeld (by intro w hS; exact run_load_op 24 (.tmp 2) rfl _ 0 rfl V _ (row_range (r1.later (hB.trans (hS.mono hB.size)) r1.lt)) Tryd.underlying24 rfl hzV.out) ?_
    try (first | (rw [put_some]; dsimp only [List.set]) | rw [put_none])
    refine rtake 8 _ (some 32) _ rfl rfl (by kernel_rfl) (by kernel_rfl) (by kernel_rfl) (fun _ _ _ h => h) (by rfl) hHeld (by intro w hS; exact run_load_op 24 (.tmp 2) rfl _ 0 rfl V _ (row_range (r1.later (hB.trans (hS.mono hB.size)) r1.lt)) Tryd.underlying24 rfl hzV.out) ?_
    try (first | (rw [put_some]; dsimp only [List.set]) | rw [put_none])
    refine wpAnyH_ready (rs := [7]) (by kernel_rfl) (by simp) (AllReadyH.cons (o := _) rfl (fun K hK => ?_) AllReadyH.nil)
    go_simp
    refine (htx.out _ (hE7.next hB)).mono ?_; rintro e ww77 ⟨rfl, hqw77⟩
    try go_wp2_with fail
    refine hK.out _ _ (hHeld.trans (hqw77.mono hHeld.size)) (fun hHeld' => ?_)
    clear hK K
    try (first | (rw [put_some]; dsimp only [List.set]) | rw [put_none])
    have hB := below_step hB hqw77
    have hB1 := below_step hB1 hqw77
    have hB3 := below_step hB3 hqw77
    have hB7 : Below ww77.heap.size ww77 ww77 := Below.refl _ _
    refine wpAnyH_narrow (S' := fun w' => Below ww77.heap.size ww77 w') (fun _ h => (hHeld.trans (hqw77.mono hHeld.size)).trans (h.mono (hHeld.trans (hqw77.mono hHeld.size)).size)) _ _ _ _ ?_
    clear hHeld
    have hHeld : Below ww77.heap.size ww77 ww77 := Below.refl _ _
    refine wpAnyH_ready (rs := [9]) (by kernel_rfl) (by simp) (AllReadyH.cons (o := _) rfl (fun K hK => ?_) AllReadyH.nil)
    go_simp
    refine (hrtx.out _).mono ?_; rintro e ww79 ⟨rfl, hqw79⟩
    try go_wp2_with fail
    refine hK.out _ _ (hHeld.trans (hqw79.mono hHeld.size)) (fun hHeld' => ?_)
    clear hK K
    try (first | (rw [put_some]; dsimp only [List.set]) | rw [put_none])
    have hB := below_step hB hqw79
    have hB1 := below_step hB1 hqw79
    have hB3 := below_step hB3 hqw79
    have hB7 := below_step hB7 hqw79
    have hB9 : Below ww79.heap.size ww79 ww79 := Below.refl _ _
    refine wpAnyH_narrow (S' := fun w' => Below ww79.heap.size ww79 w') (fun _ h => (hHeld.trans (hqw79.mono hHeld.size)).trans (h.mono (hHeld.trans (hqw79.mono hHeld.size)).size)) _ _ _ _ ?_
    clear hHeld
    have hHeld : Below ww79.heap.size ww79 ww79 := Below.refl _ _
    refine rtake 10 _ (some 34) _ rfl rfl (by kernel_rfl) (by kernel_rfl) (by kernel_rfl) (fun _ _ _ h => h) (by rfl) hHeld (by intro w hS; go_simp; try with_reducible rfl) ?_
    try (first | (rw [put_some]; dsimp only [List.set]) | rw [put_none])
    refine rtake 11 _ (some 35) _ rfl rfl (by kernel_rfl) (by kernel_rfl) (by kernel_rfl) (fun _ _ _ h => h) (by rfl) hHeld (by intro w hS; go_simp; try with_reducible rfl) ?_
    try (first | (rw [put_some]; dsimp only [List.set]) | rw [put_none])
    refine rtake 12 _ (some 36) _ rfl rfl (by kernel_rfl) (by kernel_rfl) (by kernel_rfl) (fun _ _ _ h => h) (by rfl) hHeld (by intro w hS; go_simp; try with_reducible rfl) ?_
    try (first | (rw [put_some]; dsimp only [List.set]) | rw [put_none])
    refine rtake 13 _ (some 37) _ rfl rfl (by kernel_rfl) (by kernel_rfl) (by kernel_rfl) (fun _ _ _ h => h) (by rfl) hHeld (by intro w hS; exact run_load_op 24 (.tmp 5) rfl _ 0 rfl X _ (row_range (r5.later (hB.trans (hS.mono hB.size)) r5.lt)) Tryd.underlying24 rfl hzX.out) ?_
    try (first | (rw [put_some]; dsimp only [List.set]) | rw [put_none])
    refine rtake 14 _ (some 38) _ rfl rfl (by kernel_rfl) (by kernel_rfl) (by kernel_rfl) (fun _ _ _ h => h) (by rfl) hHeld (by intro w hS; exact run_load_op 24 (.tmp 7) rfl _ 0 rfl X _ (row_range (r7.later (hB.trans (hS.mono hB.size)) r7.lt)) Tryd.underlying24 rfl hzX.out) ?_
    try (first | (rw [put_some]; dsimp only [List.set]) | rw [put_none])
    refine rtake 15 _ (some 39) _ rfl rfl (by kernel_rfl) (by kernel_rfl) (by kernel_rfl) (fun _ _ _ h => h) (by rfl) hHeld (by intro w hS; go_simp; try with_reducible rfl) ?_
    try (first | (rw [put_some]; dsimp only [List.set]) | rw [put_none])
    refine rtake 16 _ (some 40) _ rfl rfl (by kernel_rfl) (by kernel_rfl) (by kernel_rfl) (fun _ _ _ h => h) (by rfl) hHeld (by intro w hS; go_simp; try with_reducible rfl) ?_
    try (first | (rw [put_some]; dsimp only [List.set]) | rw [put_none])
    refine rtake 17 _ (some 41) _ rfl rfl (by kernel_rfl) (by kernel_rfl) (by kernel_rfl) (fun _ _ _ h => h) (by rfl) hHeld (by intro w hS; go_simp; try with_reducible rfl) ?_
    try (first | (rw [put_some]; dsimp only [List.set]) | rw [put_none])
    refine rtake 18 _ (some 42) _ rfl rfl (by kernel_rfl) (by kernel_rfl) (by kernel_rfl) (fun _ _ _ h => h) (by rfl) hHeld (by intro w hS; go_simp; try with_reducible rfl) ?_
    try (first | (rw [put_some]; dsimp only [List.set]) | rw [put_none])
    refine rtake 19 _ (some 43) _ rfl rfl (by kernel_rfl) (by kernel_rfl) (by kernel_rfl) (fun _ _ _ h => h) (by rfl) hHeld (by intro w hS; go_simp; try with_reducible rfl) ?_
    try (first | (rw [put_some]; dsimp only [List.set]) | rw [put_none])
    refine rtake 20 _ (some 44) _ rfl rfl (by kernel_rfl) (by kernel_rfl) (by kernel_rfl) (fun _ _ _ h => h) (by rfl) hHeld (by intro w hS; go_simp; try with_reducible rfl) ?_
    try (first | (rw [put_some]; dsimp only [List.set]) | rw [put_none])
    refine rtake 21 _ (some 45) _ rfl rfl (by kernel_rfl) (by kernel_rfl) (by kernel_rfl) (fun _ _ _ h => h) (by rfl) hHeld (by intro w hS; go_simp; try with_reducible rfl) ?_
    try (first | (rw [put_some]; dsimp only [List.set]) | rw [put_none])
    refine rtake 22 _ (some 4) _ rfl rfl (by kernel_rfl) (by kernel_rfl) (by kernel_rfl) (fun _ _ _ h => h) (by rfl) hHeld (by intro w hS; go_simp; try with_reducible rfl) ?_
    try (first | (rw [put_some]; dsimp only [List.set]) | rw [put_none])
    refine wpAnyH_done (by kernel_rfl) ?_ _
    refine NoPanic.normal ?_
    have hBe := hb7.trans (hB.mono hb7.size)
    clear hHeld
    go_wp2
    go_ret
    exact ⟨rfl, hBe⟩
end Go.Proofs.YtpmibdgghojgaaaDoor

/- LAYER 12's cards: what the library's listed variables hold; a world for the witness; an address as an argument. -/
namespace Go.Proofs.YtpmibdgghojgaaaDoor
open Go Go.ChangeShapes Go.WideShapes Go.ChangeAt Go.RowKit
set_option maxRecDepth 100000

theorem shape_most {W : World} (h : W.ShapedOpen Tryd.prog) : ∃ m, W.cell? ⟨0, 0, none⟩ = some (.int .i64 m) :=
  Go.Proofs.cell_of_shapedOpen_int (zero := #[.int .i64 0]) (t := 3) h (of_decide_eq_true (by kernel_rfl)) (by kernel_rfl) rfl (by kernel_rfl) (by kernel_rfl) Tryd.underlying3
theorem g64 : Tryd.prog.globalNamed "math/bits.deBruijn64tab" = some 7 := by kernel_rfl
theorem gSyn : Tryd.prog.globalNamed "strconv.ErrSyntax" = some 2 := by kernel_rfl
theorem gRng : Tryd.prog.globalNamed "strconv.ErrRange" = some 3 := by kernel_rfl
def bruijn64 : List Int := [0, 1, 56, 2, 57, 49, 28, 3, 61, 58, 42, 50, 38, 29, 17, 4, 62, 47, 59, 36, 45, 43, 51, 22, 53, 39, 33, 30, 24, 18, 12, 5, 63, 55, 48, 27, 60, 41, 37, 16, 46, 35, 44, 21, 52, 32, 23, 11, 54, 26, 40, 15, 34, 20, 31, 10, 25, 14, 19, 9, 13, 8, 7, 6]
theorem star_es : "*" ++ "errors.errorString" = "*errors.errorString" := by decide
theorem type_string_ptr : ∀ u, Tryd.prog.typeName? 3 u = some "*errors.errorString" → u = 118 := fun u h =>
  typeName_ptr_named (nm := "errors.errorString") (by rw [star_es]; kernel_rfl) (by kernel_rfl) (by decide) u (by rw [star_es]; exact h)
/-- What the listed variables hold, as far as package addr comes to them. -/
theorem env_of {W : World} (h : laidMet Tryd.prog Rows.addrTellsRow.laid W) (hs : W.ShapedOpen Tryd.prog) : Env W := by
  have h1 := laidMet.tail h
  have h2 := laidMet.tail h1
  have h4 := laidMet.tail (laidMet.tail h2)
  have h5 := laidMet.tail h4
  have t64 : Lib.TabIs Tryd.prog W "math/bits.deBruijn64tab" .u8 bruijn64 := Lib.tabIs_of_head (zs := bruijn64) g64 (t := 122) (by kernel_rfl) Tryd.underlying122 Tryd.underlying5 (by kernel_rfl) (by kernel_rfl) h1
  have tPow : Lib.TabIs Tryd.prog W "internal/strconv.uint64pow10" .u64 Lib.pow10Tab := Lib.tabIs_of_head (zs := Lib.pow10Tab) gPow (t := 99) (by kernel_rfl) Tryd.underlying99 Tryd.underlying60 (by kernel_rfl) (by kernel_rfl) h2
  obtain ⟨aR, sR, hR, -⟩ := laid_sentinel h4 gRng (by kernel_rfl) Tryd.underlying69 type_string_ptr Tryd.underlying118 Tryd.underlying120 rfl rfl Tryd.underlying9 (by kernel_rfl) (by kernel_rfl)
  obtain ⟨aS, sS, hS, -⟩ := laid_sentinel h5 gSyn (by kernel_rfl) Tryd.underlying69 type_string_ptr Tryd.underlying118 Tryd.underlying120 rfl rfl Tryd.underlying9 (by kernel_rfl) (by kernel_rfl)
  refine ⟨shape_most hs, tPow, t64.cell g64 15 (by decide), ⟨_, by simpa using World.var?_cell gSyn hS 0, .inr ⟨_, _, rfl⟩⟩, ⟨_, by simpa using World.var?_cell gRng hR 0, .inr ⟨_, _, rfl⟩⟩⟩
/-! One start that fits: the library's tables and sentinels as their initialisers lay them. -/
def setCells12 (cs : List Value) : Obj → Obj
  | .cells _ t frozen => .cells cs.toArray t frozen
  | o => o
def bruijn32 : List Int := [0, 1, 28, 2, 29, 14, 24, 3, 30, 22, 20, 15, 25, 17, 4, 8, 31, 27, 13, 23, 21, 19, 16, 7, 26, 12, 18, 6, 11, 5, 10, 9]
def accept32 : List Int := [128, 191, 160, 191, 128, 159, 144, 191, 128, 143] ++ List.replicate 22 0
def synS : ByteArray := { data := #[105, 110, 118, 97, 108, 105, 100, 32, 115, 121, 110, 116, 97, 120] }
def rngS : ByteArray := { data := #[118, 97, 108, 117, 101, 32, 111, 117, 116, 32, 111, 102, 32, 114, 97, 110, 103, 101] }
/-- So many blocks has the settled world. -/
noncomputable def low12 : Nat := (World.holding Tryd.prog default ⟨#[], #[], []⟩).heap.size
noncomputable def libWorld (os : Os) : World :=
  let w0 := World.holding Tryd.prog os ⟨#[.cells #[.string rngS] 120, .cells #[.string synS] 120], #[], []⟩
  { w0 with heap := ((((((w0.heap.modify 6 (setCells12 (bruijn32.map (Value.int .u8)))).modify 7 (setCells12 (bruijn64.map (Value.int .u8)))).modify 1 (setCells12 (Lib.pow10Tab.map (Value.int .u64)))).modify
      5 (setCells12 (accept32.map (Value.int .u8)))).modify 4 (setCells12 (Go.Pinned.utf8FirstZ.map fun n : Nat => Value.int .u8 (n : Int)))).modify
      3 (setCells12 [.iface 118 (.pointer (some ⟨low12, 0, none⟩))])).modify 2 (setCells12 [.iface 118 (.pointer (some ⟨low12 + 1, 0, none⟩))]) }
theorem lib_met (os : Os) (args : Array Value) : laidMet Tryd.prog Rows.addrTellsRow.laid ((libWorld os).forCall (fun _ _ => 0) ⟨#[], args, []⟩).memory :=
  laidMet_of_run' 8 (by kernel_rfl) (by kernel_rfl)
/-- An argument that is an address. -/
theorem open_adr {W : World} {r : Reach} {b0 : Nat} {v : Value} (hv : Value.okWide Tryd.prog W r b0 24 v) : ∃ a : Adr, a.Ok ∧ v = .agg (adrV a).toArray := by
  simp only [Value.okWide, Tryd.underlying24] at hv
  obtain ⟨cs, rfl, hsz, hrow⟩ := hv
  have h17 : cs.size = 17 := by rw [hsz]; kernel_rfl
  obtain ⟨ts, hts, -, hall⟩ := hrow
  have e : Tryd.prog.cellTypes Tryd.prog.depth 24 = some (4 :: List.replicate 16 5) := by kernel_rfl
  rw [e] at hts
  cases hts
  have hlen : (4 :: List.replicate 16 5).length = 17 := rfl
  have h0 : ∃ b, cs[0]? = some (.bool b) := by
    obtain ⟨u, hu, hc⟩ := hall 0 cs[0] (by simp [h17])
    rw [hlen] at hu
    cases hu
    unfold Cell.okWide Cell.ok at hc
    simp only [Tryd.underlying4] at hc
    cases hv : cs[0] <;> rw [hv] at hc <;> simp at hc
    rename_i bb
    exact ⟨bb, by simp [h17, hv]⟩
  have hb : ∀ i, 1 ≤ i → i < 17 → ∃ x : UInt8, cs[i]? = some (.int .u8 (x.toNat : Int)) := by
    intro i h1 h2
    obtain ⟨u, hu, hc⟩ := hall i (cs[i]'(by omega)) (by simp [h17, h2])
    rw [hlen, Nat.mod_eq_of_lt h2] at hu
    have hu8 : u = 5 := by
      obtain ⟨j, rfl⟩ : ∃ j, i = j + 1 := ⟨i - 1, by omega⟩
      rw [List.getElem?_cons_succ, List.getElem?_replicate, if_pos (by omega)] at hu
      exact (Option.some.inj hu).symm
    subst hu8
    unfold Cell.okWide Cell.ok at hc
    simp only [Tryd.underlying5] at hc
    cases hv : cs[i]'(by omega) <;> rw [hv] at hc <;> simp at hc
    rename_i k z
    obtain ⟨rfl, hz⟩ := hc
    have hz0 : 0 ≤ z ∧ z ≤ 255 := by
      have h := hz
      unfold IntKind.has at h
      exact ⟨h.1, h.2⟩
    refine ⟨UInt8.ofNat z.toNat, ?_⟩
    rw [Array.getElem?_eq_getElem (by omega), hv, UInt8.toNat_ofNat']
    congr 2
    omega
  obtain ⟨b0, e0⟩ := h0
  let l : List UInt8 := (List.range 16).map fun i => if h : 1 ≤ i + 1 ∧ i + 1 < 17 then Classical.choose (hb (i + 1) h.1 h.2) else 0
  refine ⟨⟨b0, l⟩, by show l.length = 16; simp [l], ?_⟩
  congr 1
  apply Array.ext_getElem?
  intro i
  cases i with
  | zero => exact e0
  | succ i =>
    have e2 : (adrV ⟨b0, l⟩).toArray[i + 1]? = (byts l)[i]? := by rw [List.getElem?_toArray]; rfl
    rw [e2]
    by_cases hi : i < 16
    · have hx := Classical.choose_spec (hb (i + 1) (by omega) (by omega))
      rw [hx, get_byts l i (by simp [l]; exact hi)]
      congr 3
      simp [l, hi]
      rw [dif_pos (by omega)]
    · rw [Array.getElem?_eq_none (by omega), List.getElem?_eq_none (by rw [length_byts]; simp [l]; omega)]
theorem hw_of_ints (zs : List Int) (h : ∀ j, j < zs.length → 0 ≤ zs.getD j 0 ∧ zs.getD j 0 ≤ 65535) : ∃ l : List Nat, l.length = zs.length ∧ (∀ n ∈ l, n ≤ 65535) ∧ zs.map (Value.int .u16) = hwV l := by
  induction zs with
  | nil => exact ⟨[], rfl, (fun n hn => by cases hn), rfl⟩
  | cons z zs ih =>
    have h0 := h 0 (by simp)
    obtain ⟨l, h1, h2, h3⟩ := ih (fun j hj => by simpa using h (j + 1) (by simpa using hj))
    simp only [List.getD_cons_zero] at h0
    refine ⟨z.toNat :: l, by simp [h1], fun n hn => ?_, ?_⟩
    · rcases List.mem_cons.1 hn with rfl | hn
      · omega
      · exact h2 n hn
    · show Value.int .u16 z :: zs.map (Value.int .u16) = Value.int .u16 (z.toNat : Int) :: hwV l
      rw [h3]
      congr 2
      omega
end Go.Proofs.YtpmibdgghojgaaaDoor

namespace Go.Proofs.YtpmibdgghojgaaaDoor.addrTells
open Go.ChangeShapes Go.WideShapes Go.ChangeAt Go.RowKit

set_option maxRecDepth 100000 in
theorem contract (H : Type) (enc : TypeId × Value → H) (W : World) (base : Nat) (args : Array Value) (ds gs : List (DataW H)) (before : List MemPlace)
    (hval : ∀ (j : Nat) t v, Tryd.f3.params[j]? = some t → args[j]? = some v → Value.okWide Tryd.prog W .any base t v)
    (hW : DataW.Whole enc Tryd.prog Tryd.f3.params.toList Rows.addrTellsSpec.vars false W args.toList ds gs before) (hL : laidMetH Tryd.prog Rows.addrTellsRow.laid W) (hSh : W.ShapedOpen Tryd.prog) :
    Calls Tryd.prog 3 args W fun e W' => ∃ v, e = .returned v ∧ Rows.addrTellsSpec.post enc Tryd.prog Tryd.f3 false true false false W args v W' := by
  have hW' := hW
  obtain ⟨p, q, hA0, hV, rfl, hfz, hnd⟩ := hW
  have hA : DataW.TrodAll enc Tryd.prog W 0 (fun _ => true) true Tryd.f3.params.toList args.toList ds p := hA0
  rw [Tryd.params3] at hA hval
  obtain ⟨v0, vs0, d0, ds0, p0, q0, hargs, rfl, rfl, h0, r0⟩ := trodAll_cons hA
  obtain ⟨v1, vs1, d1, ds1, p1, q1, rfl, rfl, rfl, h1, r1⟩ := trodAll_cons r0
  obtain ⟨rfl, rfl, rfl⟩ := trodAll_nil r1
  obtain rfl : args = #[v0, v1] := by cases args; simp_all
  obtain ⟨rfl, rfl⟩ := trodVars_none hV
  have hT := env_of hL hSh
  have k0 := h0
  have lt0 : ∀ x ∈ p0, x.block < W.heap.size := by obtain ⟨m, hm⟩ := k0; exact DataW.trod_lt m _ _ _ hm
  have k1 := h1
  have lt1 : ∀ x ∈ p1, x.block < W.heap.size := by obtain ⟨m, hm⟩ := k1; exact DataW.trod_lt m _ _ _ hm
  obtain ⟨a0, ha0, rfl⟩ := open_adr (hval 0 24 v0 rfl rfl)
  obtain ⟨s1, rfl, rfl, rfl, hs1⟩ := Go.ChangeMaps.open_string Tryd.underlying9 (hval 1 9 v1 rfl rfl) h1
  obtain ⟨l1, rfl⟩ := bytes_str s1
  refine (atells_walk a0 ha0 l1 W hT).mono fun e W' ⟨he, bel⟩ => ?_
  subst he
  exact ⟨_, rfl, _, _, _, [], _, [], hW', trodAll_mk1 (shut_bool Tryd.underlying4 _), (trodAll_cons_mk (Below.trod laidOut (by kernel_rfl) (of_decide_eq_true (by kernel_rfl)) k0 bel lt0) (trodAll_cons_mk (Below.trod laidOut (by kernel_rfl) (of_decide_eq_true (by kernel_rfl)) k1 bel lt1) trodAll_mk0)), rfl, bel.frame _, fun h => by cases h⟩
theorem laid_met (os : Os) : laidMet Tryd.prog Rows.addrTellsRow.laid ((libWorld os).forCall (fun _ _ => 0) ⟨#[], #[.agg (adrV zeroA).toArray, .string { data := #[] }], []⟩).memory :=
  lib_met os _
theorem reads (os : Os) {H : Type} (enc : TypeId × Value → H) : ∃ places, DataW.whole enc Tryd.prog ((libWorld os).forCall (fun _ _ => 0) ⟨#[], #[.agg (adrV zeroA).toArray, .string { data := #[] }], []⟩).memory Tryd.f3.params.toList Rows.addrTellsSpec.vars false (#[.agg (adrV zeroA).toArray, .string { data := #[] }] : Array Value).toList 8 = some ([.agg [.lit (.bool false), .agg (List.replicate 16 (.lit (.int .u8 0)))], .lit (.string [])], [], places) :=
  ⟨[], by kernel_rfl⟩
set_option maxRecDepth 100000 in
theorem lifted (os : Os) (started : os.Started) (H : Type) (enc : TypeId × Value → H) (F : Stop.Interp) :
    ReturnsInHanded {} Tryd.checked os 3 .any ((OpenSpec.ofChange Rows.addrTellsSpec).preRow enc Tryd.prog Tryd.f3 Rows.addrTellsRow.domain false Rows.addrTellsRow.laid) (((OpenSpec.ofChange Rows.addrTellsSpec).at F).post enc Tryd.prog Tryd.f3 false true false false) := by
  obtain ⟨places, hx⟩ := reads os enc
  refine returnsInHanded_of_row (C := Tryd.checked) (s := OpenSpec.ofChange Rows.addrTellsSpec) own started (by kernel_rfl) Tryd.func3
    (witness_row_at (enc := enc) (C := Tryd.checked) false (libWorld os) #[.agg (adrV zeroA).toArray, .string { data := #[] }] rfl (by kernel_rfl) (by kernel_rfl) (by kernel_rfl)
      (OpenSpec.preRow_of_cond 8 hx (by kernel_rfl) (fun k hk => by cases hk) (by kernel_rfl) (laid_met os))) ?_
  intro W base args ds gs before hval hW _ _ _ hL hSh _
  exact contract H enc W base args ds gs before hval hW hL hSh
theorem said : Rows.AddrTellsSaid :=
  OpenClaim.holds_of_cond 3 Tryd.f3 rfl rfl rfl rfl rfl rfl rfl ⟨rfl, rfl, rfl, rfl, rfl⟩ rfl rfl rfl rfl rfl (by kernel_rfl) Tryd.func3 (by kernel_rfl)
    (of_decide_eq_true (by kernel_rfl)) (by unfold Func.isWrapper; first | (rw [if_pos (by decide +kernel)]; kernel_rfl) | (rw [if_neg (by decide +kernel)]; exact ⟨rfl, rfl⟩))
    (fun os started H enc _ F => by rw [OpenClaim.pre_eq_preRow]; exact lifted os started H enc F)
/-- No parameter wants a stand-in; the program's own looks are off. -/
theorem plain (f : FuncId) (fn : Func) (hf : Tryd.pinned.checked.prog.funcNamed "chitty/chittylaw12.AddrTells" = some f) (hfn : Tryd.pinned.checked.prog.funcs[f]? = some fn) :
    true = Tryd.pinned.checked.prog.looks [] ∧ ∀ (j : Nat) t, fn.params[j]? = some t → Tryd.pinned.checked.prog.wantsStandIn t = false := by
  obtain rfl : f = 3 := Option.some.inj ((show Tryd.prog.funcNamed "chitty/chittylaw12.AddrTells" = some 3 by kernel_rfl).symm.trans hf) |>.symm
  obtain rfl : fn = Tryd.f3 := (Option.some.inj (Tryd.func3.symm.trans hfn)).symm
  refine ⟨by kernel_rfl, fun j t ht => ?_⟩
  rw [Tryd.params3] at ht
  have hm := Array.mem_of_getElem? ht
  simp only [List.mem_toArray, List.mem_cons, List.not_mem_nil, or_false] at hm
  rcases hm with rfl | rfl
  · exact (show Tryd.prog.wantsStandIn 24 = false by kernel_rfl)
  · exact (show Tryd.prog.wantsStandIn 9 = false by kernel_rfl)
theorem card : Rows.AddrTellsCardSaid :=
  Claim7.holds_tied_plain_at .later [] _ _ _ _ said (fun _ h => by cases h) (by kernel_rfl) (fun _ h => by cases h) addrTells_row_tie rfl ⟨rfl, rfl⟩ (by kernel_rfl) rfl plain (by kernel_rfl)
end Go.Proofs.YtpmibdgghojgaaaDoor.addrTells
