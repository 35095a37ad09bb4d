/- LAYER 13, NetTells, proved: for any range, any address and any text, and every state of memory in which the library's listed variables lie as its text lays them, the call returns true and turns nothing that was there: whether the range can be, its text, whether it has the address, the range of the address's first bits, and what range a text is, are the document's. Conditions: the library's tables and sentinels as laid (the card ties them to the program's text). -/
import Derived.Test.YtflebnbpoboljaaDoorGYp
import Derived.Test.YtflebnbpoboljaaDoorGIl2
import Derived.Test.YtflebnbpoboljaaDoorK
import Derived.Test.YtflebnbpoboljaaDoorCards
import Derived.Test.YtflebnbpoboljaaDoorTie
import Derived.Test.YtflebnbpoboljaaDoorGAd3
import Derived.Test.YtflebnbpoboljaaDoorAd0
import Derived.Test.YtflebnbpoboljaaDoorGYl
import Derived.Stop.LaidErr
import Derived.Shelf.Vars
/- LAYER 13, NetTells: the walk of the law. -/
namespace Go.Proofs.YtflebnbpoboljaaDoor
set_option maxRecDepth 100000
open Go Go.RowKit

/-- What both Parse answer, written out. -/
theorem pars_out13 (s : List UInt8) : ∃ (r : Rng) (b : Bool), r.Ok ∧ parsR (parseR s) = .tuple #[.agg (rngV r).toArray, .bool b] := by
  cases hp : parseR s with
  | none => exact ⟨zeroR, false, zeroR_ok, rfl⟩
  | some r =>
    obtain ⟨h1, h2, -⟩ := (parseR_iff s r).1 hp
    have := checkR_lim r h2
    exact ⟨r, true, ⟨h1, by omega, by omega⟩, rfl⟩
set_option maxHeartbeats 8000000 in
theorem ntells_walk (r : Rng) (h : r.Ok) (a : Adr) (ha : a.Ok) (s : List UInt8) (w : World) (hE : Env w) :
    Calls Tryd.prog 3 #[.agg (rngV r).toArray, .agg (adrV a).toArray, .string (bstr s)] w fun e w' => e = .returned (.bool true) ∧ Below w.heap.size w w' := by
  have hal := Lib.hid (fun w' hE => netAlive_any w' hE)
  have hzs := size_bstr s
  obtain ⟨Q, hQ⟩ : ∃ Q, Q = rngV r := ⟨_, rfl⟩
  obtain ⟨V, hV⟩ : ∃ V, V = adrV a := ⟨_, rfl⟩
  obtain ⟨w1, hw1⟩ : ∃ w1, w1 = (w.alloc (.cells Q.toArray 26)).alloc (.cells V.toArray 24) := ⟨_, rfl⟩
  obtain ⟨r1, q1, hb1, -⟩ := two_rows hw1.symm
  have hE1 := hE.next hb1
  rw [← hQ, ← hV]
  have HW := Lib.hid hw1
  clear hw1 hE
  by_cases h5 : 500 < s.length
  · have h5' : (500 : Int) < (s.length : Int) := by omega
    clear hQ hV r1 q1 h5
    generalize s.length = n at *
    generalize bstr s = S at *
    go_enter Tryd.func3, Tryd.ntmps3
    go_wp2_with (go_at_call 6; rw [← HW.out]; refine (hal.out _ hE1).mono ?_; rintro e w2 ⟨rfl, hb2⟩)
    go_ret
    exact ⟨rfl, hb1.trans (hb2.mono hb1.size)⟩
  · have h5' : (s.length : Int) ≤ 500 := by omega
    obtain ⟨x, bx, hx, hpx⟩ := pars_out13 s
    have hpa := Lib.hid (fun w' hE => aparse13_any s (by omega) w' hE)
    have hpr := Lib.hid (fun w' => rparse13_any s (by omega) w')
    rw [hpx] at hpa hpr
    have hof := Lib.hid (fun w' => aof_any a ha r.n w')
    have hrof := Lib.hid (fun w' => show Calls Tryd.prog 10 #[.agg (adrV a).toArray, .int .i64 r.n] w' fun e w'' => e = .returned (.tuple #[.agg (rngV (ofR a r.n)).toArray, .bool (ofOk a r.n)]) ∧ Below w'.heap.size w' w'' from rof_any a ha r.n w')
    have hOo := ofR_ok a r.n h.lo h.hi
    have hck := Lib.hid (fun w' => acheckR_any r h w')
    have hrck := Lib.hid (fun w' => rcheckR_any r h w')
    have htx := Lib.hid (fun w' hE => atext13_any r h w' hE)
    have hrtx := Lib.hid (fun w' => rtext13_any r h w')
    have hh := Lib.hid (fun w' => ahas_any r h a ha w')
    have hrh := Lib.hid (fun w' => rhas_any r h a ha w')
    obtain ⟨X, hX⟩ : ∃ X, X = rngV x := ⟨_, rfl⟩
    obtain ⟨O, hO⟩ : ∃ O, O = rngV (ofR a r.n) := ⟨_, rfl⟩
    have HQ := Lib.hid (show Q = adrV r.a ++ [Value.int .i64 r.n] by rw [hQ]; rfl)
    have HQl := Lib.hid (length_adrV h.a)
    have hEq : ∀ w, (Op.equalIn 10000 26 (.agg X.toArray) (.agg X.toArray)).run Tryd.prog w = .ok true w := by
      intro w; rw [hX, eq_rng x x hx.a hx.a w]; simp
    have hEq2 : ∀ w, (Op.equalIn 10000 26 (.agg O.toArray) (.agg O.toArray)).run Tryd.prog w = .ok true w := by
      intro w; rw [hO, eq_rng _ _ hOo.a hOo.a w]; simp
    have hzV := Lib.hid (show (Tryd.prog.info? 24).map (·.size) = some V.length by rw [hV, size_adr, length_adrV ha])
    have hzQ := Lib.hid (show (Tryd.prog.info? 26).map (·.size) = some Q.length by rw [hQ, size_rng, length_rngV' r h.a])
    have hzX := Lib.hid (show (Tryd.prog.info? 26).map (·.size) = some X.length by rw [hX, size_rng, length_rngV' x hx.a])
    have hzX2 := Lib.hid (show (Tryd.prog.info? 26).map (·.size) = some X.toArray.size by rw [List.size_toArray]; exact hzX.out)
    have h18X := Lib.hid (show (18 : Nat) = X.toArray.size by rw [hX, List.size_toArray, length_rngV' x hx.a])
    have hX1 := Lib.hid (show X.toArray.all (·.oneCell') = true by rw [hX]; exact rngV_one' _)
    have hzO := Lib.hid (show (Tryd.prog.info? 26).map (·.size) = some O.length by rw [hO, size_rng, length_rngV' _ hOo.a])
    have hzO2 := Lib.hid (show (Tryd.prog.info? 26).map (·.size) = some O.toArray.size by rw [List.size_toArray]; exact hzO.out)
    have h18O := Lib.hid (show (18 : Nat) = O.toArray.size by rw [hO, List.size_toArray, length_rngV' _ hOo.a])
    have hO1 := Lib.hid (show O.toArray.all (·.oneCell') = true by rw [hO]; exact rngV_one' _)
    rw [← hX] at hpa hpr
    rw [← hO] at hof hrof
    rw [← hQ] at hck hrck htx hrtx hh hrh
    rw [← hV] at hof hrof hh hrh
    clear hV hQ hX hO hx hpx h5 hOo
    generalize checkR r = ck at *
    generalize textR r = tx at *
    generalize bstr tx = TX at *
    generalize hasR r a = hs at *
    generalize ofOk a r.n = ob at *
    generalize hn : r.n = n at *
    generalize s.length = sl at *
    generalize bstr s = S at *
    clear hn
    go_enter Tryd.func3, Tryd.ntmps3
    go_wp2_with (first
      | (go_at_call 6; rw [← HW.out]; refine (hal.out _ hE1).mono ?_; rintro e w2 ⟨rfl, hb2⟩; have hE2 := hE1.next hb2; have r1 := r1.later hb2 r1.lt; have q1 := q1.later hb2 q1.lt; have hb2 := hb1.trans (hb2.mono hb1.size))
      | (go_at_call 7; refine (hpa.out _ hE2).mono ?_; rintro e w3 ⟨rfl, hb3⟩; have hE3 := hE2.next hb3; have r1 := r1.later hb3 r1.lt; have q1 := q1.later hb3 q1.lt; have hb3 := hb2.trans (hb3.mono hb2.size))
      | (have _t := hb3; refine wpList_store_row rfl 26 (.tmp 7) (.tmp 23) rfl w3.heap.size X.toArray rfl rfl 26 _ (heap_alloc_new w3 _) hzX2.out h18X.out hX1.out ?_; refine Hid.out ?_))
    refine Lib.hid ?_
    generalize hw4 : World.setRow _ _ _ = w4
    obtain ⟨x1, hb4'⟩ := row_new_set (xs := X) hw4
    have hE4 := hE3.next hb4'
    have r1 := r1.later hb4' r1.lt
    have q1 := q1.later hb4' q1.lt
    have hb4 := hb3.trans (hb4'.mono hb3.size)
    clear hw4 hb4' hE3
    go_wp2_with (first
      | (go_at_call 8; refine (hpr.out _).mono ?_; rintro e w5 ⟨rfl, hb5⟩; have hE5 := hE4.next hb5; have r1 := r1.later hb5 r1.lt; have q1 := q1.later hb5 q1.lt; have x1 := x1.later hb5 x1.lt; have hb5 := hb4.trans (hb5.mono hb4.size))
      | (have _t := hb5; refine wpList_store_row rfl 26 (.tmp 9) (.tmp 28) rfl w5.heap.size X.toArray rfl rfl 26 _ (heap_alloc_new w5 _) hzX2.out h18X.out hX1.out ?_; refine Hid.out ?_))
    refine Lib.hid ?_
    generalize hw6 : World.setRow _ _ _ = w6
    obtain ⟨y1, hb6'⟩ := row_new_set (xs := X) hw6
    have hE6 := hE5.next hb6'
    have r1 := r1.later hb6' r1.lt
    have q1 := q1.later hb6' q1.lt
    have x1 := x1.later hb6' x1.lt
    have hb6 := hb5.trans (hb6'.mono hb5.size)
    clear hw6 hb6' hE5
    generalize w5.heap.size = g9 at *
    generalize w3.heap.size = g7 at *
    have hcn6 := rng_n' HQl.out HQ.out r1
    go_wp2_with (first
      | (have _t := hE6; with_reducible refine wpList_load_mid rfl 24 (.tmp 4) rfl (w.heap.size + 1) 0 rfl V _ (row_range q1) Tryd.underlying24 rfl hzV.out ?_)
      | (go_at_call 9; refine (hof.out _).mono ?_; rintro e w7 ⟨rfl, hb7⟩; have hE7 := hE6.next hb7; have r1 := r1.later hb7 r1.lt; have q1 := q1.later hb7 q1.lt; have x1 := x1.later hb7 x1.lt; have y1 := y1.later hb7 y1.lt; have hb7 := hb6.trans (hb7.mono hb6.size))
      | (have _t := hb7; refine wpList_store_row rfl 26 (.tmp 11) (.tmp 35) rfl w7.heap.size O.toArray rfl rfl 26 _ (heap_alloc_new w7 _) hzO2.out h18O.out hO1.out ?_; refine Hid.out ?_))
    refine Lib.hid ?_
    generalize hw8 : World.setRow _ _ _ = w8
    obtain ⟨z1, hb8'⟩ := row_new_set (xs := O) hw8
    have hE8 := hE7.next hb8'
    have r1 := r1.later hb8' r1.lt
    have q1 := q1.later hb8' q1.lt
    have x1 := x1.later hb8' x1.lt
    have y1 := y1.later hb8' y1.lt
    have hb8 := hb7.trans (hb8'.mono hb7.size)
    clear hw8 hb8' hE7
    generalize w7.heap.size = g11 at *
    clear hcn6
    have hcn8 := rng_n' HQl.out HQ.out r1
    go_wp2_with (first
      | (have _t := hE8; with_reducible refine wpList_load_mid rfl 24 (.tmp 4) rfl (w.heap.size + 1) 0 rfl V _ (row_range q1) Tryd.underlying24 rfl hzV.out ?_)
      | (go_at_call 10; refine (hrof.out _).mono ?_; rintro e w9 ⟨rfl, hb9⟩; have hE9 := hE8.next hb9; have r1 := r1.later hb9 r1.lt; have q1 := q1.later hb9 q1.lt; have x1 := x1.later hb9 x1.lt; have y1 := y1.later hb9 y1.lt; have z1 := z1.later hb9 z1.lt; have hb9 := hb8.trans (hb9.mono hb8.size))
      | (have _t := hb9; refine wpList_store_row rfl 26 (.tmp 13) (.tmp 42) rfl w9.heap.size O.toArray rfl rfl 26 _ (heap_alloc_new w9 _) hzO2.out h18O.out hO1.out ?_; refine Hid.out ?_))
    refine Lib.hid ?_
    generalize hw10 : World.setRow _ _ _ = w10
    obtain ⟨u1, hb10'⟩ := row_new_set (xs := O) hw10
    have hE10 := hE9.next hb10'
    have r1 := r1.later hb10' r1.lt
    have q1 := q1.later hb10' q1.lt
    have x1 := x1.later hb10' x1.lt
    have y1 := y1.later hb10' y1.lt
    have z1 := z1.later hb10' z1.lt
    have hb10 := hb9.trans (hb10'.mono hb9.size)
    clear hw10 hb10' hE9
    generalize w9.heap.size = g13 at *
    clear hcn8
    go_wp2
    refine wp_region_noPanic ?_
    refine wp_region_held_drew (S := fun w' => Below w10.heap.size w10 w') (by kernel_rfl) ((Below.refl _ _).drew) (fun hHeld => ?_)
    have hB := hHeld
    refine rtake 0 _ (some 44) _ rfl rfl (by kernel_rfl) (by kernel_rfl) (by kernel_rfl) (fun _ _ _ h => h) (by rfl) hHeld (by intro w hS; exact run_load_op 26 (.tmp 3) rfl _ 0 rfl Q _ (row_range (r1.later hS r1.lt)) Tryd.underlying26 rfl hzQ.out) ?_
    try (first | (rw [put_some]; dsimp only [List.set]) | rw [put_none])
    refine rtake 2 _ (some 46) _ rfl rfl (by kernel_rfl) (by kernel_rfl) (by kernel_rfl) (fun _ _ _ h => h) (by rfl) hHeld (by intro w hS; exact run_load_op 26 (.tmp 3) rfl _ 0 rfl Q _ (row_range (r1.later hS r1.lt)) Tryd.underlying26 rfl hzQ.out) ?_
    try (first | (rw [put_some]; dsimp only [List.set]) | rw [put_none])
    refine wpAnyH_ready (rs := [1]) (by kernel_rfl) (by simp) (AllReadyH.cons (o := _) rfl (fun K hK => ?_) AllReadyH.nil)
    go_simp
    refine (hck.out _).mono ?_; rintro e ww101 ⟨rfl, hqw101⟩
    try go_wp2_with fail
    refine hK.out _ _ (hHeld.trans (hqw101.mono hHeld.size)) (fun hHeld' => ?_)
    clear hK K
    try (first | (rw [put_some]; dsimp only [List.set]) | rw [put_none])
    have hB := below_step hB hqw101
    have hB1 : Below ww101.heap.size ww101 ww101 := Below.refl _ _
    refine wpAnyH_narrow (S' := fun w' => Below ww101.heap.size ww101 w') (fun _ h => (hHeld.trans (hqw101.mono hHeld.size)).trans (h.mono (hHeld.trans (hqw101.mono hHeld.size)).size)) _ _ _ _ ?_
    clear hHeld
    have hHeld : Below ww101.heap.size ww101 ww101 := Below.refl _ _
    refine wpAnyH_ready (rs := [3]) (by kernel_rfl) (by simp) (AllReadyH.cons (o := _) rfl (fun K hK => ?_) AllReadyH.nil)
    go_simp
    refine (hrck.out _).mono ?_; rintro e ww103 ⟨rfl, hqw103⟩
    try go_wp2_with fail
    refine hK.out _ _ (hHeld.trans (hqw103.mono hHeld.size)) (fun hHeld' => ?_)
    clear hK K
    try (first | (rw [put_some]; dsimp only [List.set]) | rw [put_none])
    have hB := below_step hB hqw103
    have hB1 := below_step hB1 hqw103
    have hB3 : Below ww103.heap.size ww103 ww103 := Below.refl _ _
    refine wpAnyH_narrow (S' := fun w' => Below ww103.heap.size ww103 w') (fun _ h => (hHeld.trans (hqw103.mono hHeld.size)).trans (h.mono (hHeld.trans (hqw103.mono hHeld.size)).size)) _ _ _ _ ?_
    clear hHeld
    have hHeld : Below ww103.heap.size ww103 ww103 := Below.refl _ _
    refine rtake 4 _ (some 48) _ rfl rfl (by kernel_rfl) (by kernel_rfl) (by kernel_rfl) (fun _ _ _ h => h) (by rfl) hHeld (by intro w hS; go_simp; try with_reducible rfl) ?_
    try (first | (rw [put_some]; dsimp only [List.set]) | rw [put_none])
    refine rtake 5 _ (some 49) _ rfl rfl (by kernel_rfl) (by kernel_rfl) (by kernel_rfl) (fun _ _ _ h => h) (by rfl) hHeld (by intro w hS; go_simp; try with_reducible rfl) ?_
    try (first | (rw [put_some]; dsimp only [List.set]) | rw [put_none])
    refine rtake 6 _ (some 50) _ rfl rfl (by kernel_rfl) (by kernel_rfl) (by kernel_rfl) (fun _ _ _ h => h) (by rfl) hHeld (by intro w hS; exact run_load_op 26 (.tmp 3) rfl _ 0 rfl Q _ (row_range (r1.later (hB.trans (hS.mono hB.size)) r1.lt)) Tryd.underlying26 rfl hzQ.out) ?_
    try (first | (rw [put_some]; dsimp only [List.set]) | rw [put_none])
    refine rtake 8 _ (some 52) _ rfl rfl (by kernel_rfl) (by kernel_rfl) (by kernel_rfl) (fun _ _ _ h => h) (by rfl) hHeld (by intro w hS; exact run_load_op 26 (.tmp 3) rfl _ 0 rfl Q _ (row_range (r1.later (hB.trans (hS.mono hB.size)) r1.lt)) Tryd.underlying26 rfl hzQ.out) ?_
    try (first | (rw [put_some]; dsimp only [List.set]) | rw [put_none])
    refine wpAnyH_ready (rs := [7]) (by kernel_rfl) (by simp) (AllReadyH.cons (o := _) rfl (fun K hK => ?_) AllReadyH.nil)
    go_simp
    refine (htx.out _ (hE10.next hB)).mono ?_; rintro e ww107 ⟨rfl, hqw107⟩
    try go_wp2_with fail
    refine hK.out _ _ (hHeld.trans (hqw107.mono hHeld.size)) (fun hHeld' => ?_)
    clear hK K
    try (first | (rw [put_some]; dsimp only [List.set]) | rw [put_none])
    have hB := below_step hB hqw107
    have hB1 := below_step hB1 hqw107
    have hB3 := below_step hB3 hqw107
    have hB7 : Below ww107.heap.size ww107 ww107 := Below.refl _ _
    refine wpAnyH_narrow (S' := fun w' => Below ww107.heap.size ww107 w') (fun _ h => (hHeld.trans (hqw107.mono hHeld.size)).trans (h.mono (hHeld.trans (hqw107.mono hHeld.size)).size)) _ _ _ _ ?_
    clear hHeld
    have hHeld : Below ww107.heap.size ww107 ww107 := Below.refl _ _
    refine wpAnyH_ready (rs := [9]) (by kernel_rfl) (by simp) (AllReadyH.cons (o := _) rfl (fun K hK => ?_) AllReadyH.nil)
    go_simp
    refine (hrtx.out _).mono ?_; rintro e ww109 ⟨rfl, hqw109⟩
    try go_wp2_with fail
    refine hK.out _ _ (hHeld.trans (hqw109.mono hHeld.size)) (fun hHeld' => ?_)
    clear hK K
    try (first | (rw [put_some]; dsimp only [List.set]) | rw [put_none])
    have hB := below_step hB hqw109
    have hB1 := below_step hB1 hqw109
    have hB3 := below_step hB3 hqw109
    have hB7 := below_step hB7 hqw109
    have hB9 : Below ww109.heap.size ww109 ww109 := Below.refl _ _
    refine wpAnyH_narrow (S' := fun w' => Below ww109.heap.size ww109 w') (fun _ h => (hHeld.trans (hqw109.mono hHeld.size)).trans (h.mono (hHeld.trans (hqw109.mono hHeld.size)).size)) _ _ _ _ ?_
    clear hHeld
    have hHeld : Below ww109.heap.size ww109 ww109 := Below.refl _ _
    refine rtake 10 _ (some 54) _ rfl rfl (by kernel_rfl) (by kernel_rfl) (by kernel_rfl) (fun _ _ _ h => h) (by rfl) hHeld (by intro w hS; go_simp; try with_reducible rfl) ?_
    try (first | (rw [put_some]; dsimp only [List.set]) | rw [put_none])
    refine rtake 11 _ (some 55) _ rfl rfl (by kernel_rfl) (by kernel_rfl) (by kernel_rfl) (fun _ _ _ h => h) (by rfl) hHeld (by intro w hS; go_simp; try with_reducible rfl) ?_
    try (first | (rw [put_some]; dsimp only [List.set]) | rw [put_none])
    refine rtake 12 _ (some 56) _ rfl rfl (by kernel_rfl) (by kernel_rfl) (by kernel_rfl) (fun _ _ _ h => h) (by rfl) hHeld (by intro w hS; go_simp; try with_reducible rfl) ?_
    try (first | (rw [put_some]; dsimp only [List.set]) | rw [put_none])
    refine rtake 13 _ (some 57) _ rfl rfl (by kernel_rfl) (by kernel_rfl) (by kernel_rfl) (fun _ _ _ h => h) (by rfl) hHeld (by intro w hS; exact run_load_op 26 (.tmp 3) rfl _ 0 rfl Q _ (row_range (r1.later (hB.trans (hS.mono hB.size)) r1.lt)) Tryd.underlying26 rfl hzQ.out) ?_
    try (first | (rw [put_some]; dsimp only [List.set]) | rw [put_none])
    refine rtake 14 _ (some 58) _ rfl rfl (by kernel_rfl) (by kernel_rfl) (by kernel_rfl) (fun _ _ _ h => h) (by rfl) hHeld (by intro w hS; exact run_load_op 24 (.tmp 4) rfl _ 0 rfl V _ (row_range (q1.later (hB.trans (hS.mono hB.size)) q1.lt)) Tryd.underlying24 rfl hzV.out) ?_
    try (first | (rw [put_some]; dsimp only [List.set]) | rw [put_none])
    refine rtake 16 _ (some 60) _ rfl rfl (by kernel_rfl) (by kernel_rfl) (by kernel_rfl) (fun _ _ _ h => h) (by rfl) hHeld (by intro w hS; exact run_load_op 26 (.tmp 3) rfl _ 0 rfl Q _ (row_range (r1.later (hB.trans (hS.mono hB.size)) r1.lt)) Tryd.underlying26 rfl hzQ.out) ?_
    try (first | (rw [put_some]; dsimp only [List.set]) | rw [put_none])
    refine rtake 17 _ (some 61) _ rfl rfl (by kernel_rfl) (by kernel_rfl) (by kernel_rfl) (fun _ _ _ h => h) (by rfl) hHeld (by intro w hS; exact run_load_op 24 (.tmp 4) rfl _ 0 rfl V _ (row_range (q1.later (hB.trans (hS.mono hB.size)) q1.lt)) Tryd.underlying24 rfl hzV.out) ?_
    try (first | (rw [put_some]; dsimp only [List.set]) | rw [put_none])
    refine wpAnyH_ready (rs := [15]) (by kernel_rfl) (by simp) (AllReadyH.cons (o := _) rfl (fun K hK => ?_) AllReadyH.nil)
    go_simp
    refine (hh.out _).mono ?_; rintro e ww1015 ⟨rfl, hqw1015⟩
    try go_wp2_with fail
    refine hK.out _ _ (hHeld.trans (hqw1015.mono hHeld.size)) (fun hHeld' => ?_)
    clear hK K
    try (first | (rw [put_some]; dsimp only [List.set]) | rw [put_none])
    have hB := below_step hB hqw1015
    have hB1 := below_step hB1 hqw1015
    have hB3 := below_step hB3 hqw1015
    have hB7 := below_step hB7 hqw1015
    have hB9 := below_step hB9 hqw1015
    have hB15 : Below ww1015.heap.size ww1015 ww1015 := Below.refl _ _
    refine wpAnyH_narrow (S' := fun w' => Below ww1015.heap.size ww1015 w') (fun _ h => (hHeld.trans (hqw1015.mono hHeld.size)).trans (h.mono (hHeld.trans (hqw1015.mono hHeld.size)).size)) _ _ _ _ ?_
    clear hHeld
    have hHeld : Below ww1015.heap.size ww1015 ww1015 := Below.refl _ _
    refine wpAnyH_ready (rs := [18]) (by kernel_rfl) (by simp) (AllReadyH.cons (o := _) rfl (fun K hK => ?_) AllReadyH.nil)
    go_simp
    refine (hrh.out _).mono ?_; rintro e ww1018 ⟨rfl, hqw1018⟩
    try go_wp2_with fail
    refine hK.out _ _ (hHeld.trans (hqw1018.mono hHeld.size)) (fun hHeld' => ?_)
    clear hK K
    try (first | (rw [put_some]; dsimp only [List.set]) | rw [put_none])
    have hB := below_step hB hqw1018
    have hB1 := below_step hB1 hqw1018
    have hB3 := below_step hB3 hqw1018
    have hB7 := below_step hB7 hqw1018
    have hB9 := below_step hB9 hqw1018
    have hB15 := below_step hB15 hqw1018
    have hB18 : Below ww1018.heap.size ww1018 ww1018 := Below.refl _ _
    refine wpAnyH_narrow (S' := fun w' => Below ww1018.heap.size ww1018 w') (fun _ h => (hHeld.trans (hqw1018.mono hHeld.size)).trans (h.mono (hHeld.trans (hqw1018.mono hHeld.size)).size)) _ _ _ _ ?_
    clear hHeld
    have hHeld : Below ww1018.heap.size ww1018 ww1018 := Below.refl _ _
    refine rtake 19 _ (some 63) _ rfl rfl (by kernel_rfl) (by kernel_rfl) (by kernel_rfl) (fun _ _ _ h => h) (by rfl) hHeld (by intro w hS; go_simp; try with_reducible rfl) ?_
    try (first | (rw [put_some]; dsimp only [List.set]) | rw [put_none])
    refine rtake 20 _ (some 64) _ rfl rfl (by kernel_rfl) (by kernel_rfl) (by kernel_rfl) (fun _ _ _ h => h) (by rfl) hHeld (by intro w hS; go_simp; try with_reducible rfl) ?_
    try (first | (rw [put_some]; dsimp only [List.set]) | rw [put_none])
    refine rtake 21 _ (some 65) _ rfl rfl (by kernel_rfl) (by kernel_rfl) (by kernel_rfl) (fun _ _ _ h => h) (by rfl) hHeld (by intro w hS; go_simp; try with_reducible rfl) ?_
    try (first | (rw [put_some]; dsimp only [List.set]) | rw [put_none])
    refine rtake 22 _ (some 66) _ rfl rfl (by kernel_rfl) (by kernel_rfl) (by kernel_rfl) (fun _ _ _ h => h) (by rfl) hHeld (by intro w hS; exact run_load_op 26 (.tmp 7) rfl _ 0 rfl X _ (row_range (x1.later (hB.trans (hS.mono hB.size)) x1.lt)) Tryd.underlying26 rfl hzX.out) ?_
    try (first | (rw [put_some]; dsimp only [List.set]) | rw [put_none])
    refine rtake 23 _ (some 67) _ rfl rfl (by kernel_rfl) (by kernel_rfl) (by kernel_rfl) (fun _ _ _ h => h) (by rfl) hHeld (by intro w hS; exact run_load_op 26 (.tmp 9) rfl _ 0 rfl X _ (row_range (y1.later (hB.trans (hS.mono hB.size)) y1.lt)) Tryd.underlying26 rfl hzX.out) ?_
    try (first | (rw [put_some]; dsimp only [List.set]) | rw [put_none])
    refine rtake 24 _ (some 68) _ rfl rfl (by kernel_rfl) (by kernel_rfl) (by kernel_rfl) (fun _ _ _ h => h) (by rfl) hHeld (by intro w hS; go_simp; try with_reducible rfl) ?_
    try (first | (rw [put_some]; dsimp only [List.set]) | rw [put_none])
    refine rtake 25 _ (some 69) _ rfl rfl (by kernel_rfl) (by kernel_rfl) (by kernel_rfl) (fun _ _ _ h => h) (by rfl) hHeld (by intro w hS; go_simp; try with_reducible rfl) ?_
    try (first | (rw [put_some]; dsimp only [List.set]) | rw [put_none])
    refine rtake 26 _ (some 70) _ rfl rfl (by kernel_rfl) (by kernel_rfl) (by kernel_rfl) (fun _ _ _ h => h) (by rfl) hHeld (by intro w hS; go_simp; try with_reducible rfl) ?_
    try (first | (rw [put_some]; dsimp only [List.set]) | rw [put_none])
    refine rtake 27 _ (some 71) _ rfl rfl (by kernel_rfl) (by kernel_rfl) (by kernel_rfl) (fun _ _ _ h => h) (by rfl) hHeld (by intro w hS; go_simp; try with_reducible rfl) ?_
    try (first | (rw [put_some]; dsimp only [List.set]) | rw [put_none])
    refine rtake 28 _ (some 72) _ rfl rfl (by kernel_rfl) (by kernel_rfl) (by kernel_rfl) (fun _ _ _ h => h) (by rfl) hHeld (by intro w hS; go_simp; try with_reducible rfl) ?_
    try (first | (rw [put_some]; dsimp only [List.set]) | rw [put_none])
    refine rtake 29 _ (some 73) _ rfl rfl (by kernel_rfl) (by kernel_rfl) (by kernel_rfl) (fun _ _ _ h => h) (by rfl) hHeld (by intro w hS; go_simp; try with_reducible rfl) ?_
    try (first | (rw [put_some]; dsimp only [List.set]) | rw [put_none])
    refine rtake 30 _ (some 74) _ rfl rfl (by kernel_rfl) (by kernel_rfl) (by kernel_rfl) (fun _ _ _ h => h) (by rfl) hHeld (by intro w hS; go_simp; try with_reducible rfl) ?_
    try (first | (rw [put_some]; dsimp only [List.set]) | rw [put_none])
    refine rtake 31 _ (some 75) _ rfl rfl (by kernel_rfl) (by kernel_rfl) (by kernel_rfl) (fun _ _ _ h => h) (by rfl) hHeld (by intro w hS; go_simp; try with_reducible rfl) ?_
    try (first | (rw [put_some]; dsimp only [List.set]) | rw [put_none])
    refine rtake 32 _ (some 76) _ rfl rfl (by kernel_rfl) (by kernel_rfl) (by kernel_rfl) (fun _ _ _ h => h) (by rfl) hHeld (by intro w hS; exact run_load_op 26 (.tmp 11) rfl _ 0 rfl O _ (row_range (z1.later (hB.trans (hS.mono hB.size)) z1.lt)) Tryd.underlying26 rfl hzO.out) ?_
    try (first | (rw [put_some]; dsimp only [List.set]) | rw [put_none])
    refine rtake 33 _ (some 77) _ rfl rfl (by kernel_rfl) (by kernel_rfl) (by kernel_rfl) (fun _ _ _ h => h) (by rfl) hHeld (by intro w hS; exact run_load_op 26 (.tmp 13) rfl _ 0 rfl O _ (row_range (u1.later (hB.trans (hS.mono hB.size)) u1.lt)) Tryd.underlying26 rfl hzO.out) ?_
    try (first | (rw [put_some]; dsimp only [List.set]) | rw [put_none])
    refine rtake 34 _ (some 78) _ rfl rfl (by kernel_rfl) (by kernel_rfl) (by kernel_rfl) (fun _ _ _ h => h) (by rfl) hHeld (by intro w hS; go_simp; try with_reducible rfl) ?_
    try (first | (rw [put_some]; dsimp only [List.set]) | rw [put_none])
    refine rtake 35 _ (some 79) _ rfl rfl (by kernel_rfl) (by kernel_rfl) (by kernel_rfl) (fun _ _ _ h => h) (by rfl) hHeld (by intro w hS; go_simp; try with_reducible rfl) ?_
    try (first | (rw [put_some]; dsimp only [List.set]) | rw [put_none])
    refine rtake 36 _ (some 80) _ rfl rfl (by kernel_rfl) (by kernel_rfl) (by kernel_rfl) (fun _ _ _ h => h) (by rfl) hHeld (by intro w hS; go_simp; try with_reducible rfl) ?_
    try (first | (rw [put_some]; dsimp only [List.set]) | rw [put_none])
    refine rtake 37 _ (some 81) _ rfl rfl (by kernel_rfl) (by kernel_rfl) (by kernel_rfl) (fun _ _ _ h => h) (by rfl) hHeld (by intro w hS; go_simp; try with_reducible rfl) ?_
    try (first | (rw [put_some]; dsimp only [List.set]) | rw [put_none])
    refine rtake 38 _ (some 82) _ rfl rfl (by kernel_rfl) (by kernel_rfl) (by kernel_rfl) (fun _ _ _ h => h) (by rfl) hHeld (by intro w hS; go_simp; try with_reducible rfl) ?_
    try (first | (rw [put_some]; dsimp only [List.set]) | rw [put_none])
    refine rtake 39 _ (some 83) _ rfl rfl (by kernel_rfl) (by kernel_rfl) (by kernel_rfl) (fun _ _ _ h => h) (by rfl) hHeld (by intro w hS; go_simp; try with_reducible rfl) ?_
    try (first | (rw [put_some]; dsimp only [List.set]) | rw [put_none])
    refine rtake 40 _ (some 84) _ rfl rfl (by kernel_rfl) (by kernel_rfl) (by kernel_rfl) (fun _ _ _ h => h) (by rfl) hHeld (by intro w hS; go_simp; try with_reducible rfl) ?_
    try (first | (rw [put_some]; dsimp only [List.set]) | rw [put_none])
    refine rtake 41 _ (some 6) _ rfl rfl (by kernel_rfl) (by kernel_rfl) (by kernel_rfl) (fun _ _ _ h => h) (by rfl) hHeld (by intro w hS; go_simp; try with_reducible rfl) ?_
    try (first | (rw [put_some]; dsimp only [List.set]) | rw [put_none])
    refine wpAnyH_done (by kernel_rfl) ?_ _
    refine NoPanic.normal ?_
    have hBe := hb10.trans (hB.mono hb10.size)
    clear hHeld
    go_wp2
    go_ret
    exact ⟨rfl, hBe⟩
end Go.Proofs.YtflebnbpoboljaaDoor

/- LAYER 13's cards (as layer 12's): what the library's listed variables hold; a world for the witness; an address as an argument. -/
namespace Go.Proofs.YtflebnbpoboljaaDoor
open Go Go.ChangeShapes Go.WideShapes Go.ChangeAt Go.RowKit
set_option maxRecDepth 100000

theorem shape_most {W : World} (h : W.ShapedOpen Tryd.prog) : ∃ m, W.cell? ⟨0, 0, none⟩ = some (.int .i64 m) :=
  Go.Proofs.cell_of_shapedOpen_int (zero := #[.int .i64 0]) (t := 3) h (of_decide_eq_true (by kernel_rfl)) (by kernel_rfl) rfl (by kernel_rfl) (by kernel_rfl) Tryd.underlying3
theorem g64 : Tryd.prog.globalNamed "math/bits.deBruijn64tab" = some 5 := by kernel_rfl
theorem gSyn : Tryd.prog.globalNamed "strconv.ErrSyntax" = some 1 := by kernel_rfl
theorem gRng : Tryd.prog.globalNamed "strconv.ErrRange" = some 2 := by kernel_rfl
def bruijn64 : List Int := [0, 1, 56, 2, 57, 49, 28, 3, 61, 58, 42, 50, 38, 29, 17, 4, 62, 47, 59, 36, 45, 43, 51, 22, 53, 39, 33, 30, 24, 18, 12, 5, 63, 55, 48, 27, 60, 41, 37, 16, 46, 35, 44, 21, 52, 32, 23, 11, 54, 26, 40, 15, 34, 20, 31, 10, 25, 14, 19, 9, 13, 8, 7, 6]
theorem star_es : "*" ++ "errors.errorString" = "*errors.errorString" := by decide
theorem type_string_ptr : ∀ u, Tryd.prog.typeName? 3 u = some "*errors.errorString" → u = 118 := fun u h =>
  typeName_ptr_named (nm := "errors.errorString") (by rw [star_es]; kernel_rfl) (by kernel_rfl) (by decide) u (by rw [star_es]; exact h)
/-- What the listed variables hold, as far as package addr comes to them. -/
theorem env_of {W : World} (h : laidMet Tryd.prog Rows.netTellsRow.laid W) (hs : W.ShapedOpen Tryd.prog) : Env W := by
  have h1 := laidMet.tail h
  have h2 := laidMet.tail h1
  have h4 := laidMet.tail (laidMet.tail h2)
  have h5 := laidMet.tail h4
  have t64 : Lib.TabIs Tryd.prog W "math/bits.deBruijn64tab" .u8 bruijn64 := Lib.tabIs_of_head (zs := bruijn64) g64 (t := 133) (by kernel_rfl) Tryd.underlying133 Tryd.underlying5 (by kernel_rfl) (by kernel_rfl) h1
  have tPow : Lib.TabIs Tryd.prog W "internal/strconv.uint64pow10" .u64 Lib.pow10Tab := Lib.tabIs_of_head (zs := Lib.pow10Tab) gPow (t := 122) (by kernel_rfl) Tryd.underlying122 Tryd.underlying86 (by kernel_rfl) (by kernel_rfl) h2
  obtain ⟨aR, sR, hR, -⟩ := laid_sentinel h4 gRng (by kernel_rfl) Tryd.underlying43 type_string_ptr Tryd.underlying118 Tryd.underlying120 rfl rfl Tryd.underlying9 (by kernel_rfl) (by kernel_rfl)
  obtain ⟨aS, sS, hS, -⟩ := laid_sentinel h5 gSyn (by kernel_rfl) Tryd.underlying43 type_string_ptr Tryd.underlying118 Tryd.underlying120 rfl rfl Tryd.underlying9 (by kernel_rfl) (by kernel_rfl)
  refine ⟨shape_most hs, tPow, t64.cell g64 15 (by decide), ⟨_, by simpa using World.var?_cell gSyn hS 0, .inr ⟨_, _, rfl⟩⟩, ⟨_, by simpa using World.var?_cell gRng hR 0, .inr ⟨_, _, rfl⟩⟩⟩
/-! One start that fits: the library's tables and sentinels as their initialisers lay them. -/
def setCells12 (cs : List Value) : Obj → Obj
  | .cells _ t frozen => .cells cs.toArray t frozen
  | o => o
def bruijn32 : List Int := [0, 1, 28, 2, 29, 14, 24, 3, 30, 22, 20, 15, 25, 17, 4, 8, 31, 27, 13, 23, 21, 19, 16, 7, 26, 12, 18, 6, 11, 5, 10, 9]
def accept32 : List Int := [128, 191, 160, 191, 128, 159, 144, 191, 128, 143] ++ List.replicate 22 0
def synS : ByteArray := { data := #[105, 110, 118, 97, 108, 105, 100, 32, 115, 121, 110, 116, 97, 120] }
def rngS : ByteArray := { data := #[118, 97, 108, 117, 101, 32, 111, 117, 116, 32, 111, 102, 32, 114, 97, 110, 103, 101] }
/-- So many blocks has the settled world. -/
noncomputable def low12 : Nat := (World.holding Tryd.prog default ⟨#[], #[], []⟩).heap.size
noncomputable def libWorld (os : Os) : World :=
  let w0 := World.holding Tryd.prog os ⟨#[.cells #[.string rngS] 120, .cells #[.string synS] 120], #[], []⟩
  { w0 with heap := ((((((w0.heap.modify 4 (setCells12 (bruijn32.map (Value.int .u8)))).modify 5 (setCells12 (bruijn64.map (Value.int .u8)))).modify 3 (setCells12 (Lib.pow10Tab.map (Value.int .u64)))).modify
      7 (setCells12 (accept32.map (Value.int .u8)))).modify 6 (setCells12 (Go.Pinned.utf8FirstZ.map fun n : Nat => Value.int .u8 (n : Int)))).modify
      2 (setCells12 [.iface 118 (.pointer (some ⟨low12, 0, none⟩))])).modify 1 (setCells12 [.iface 118 (.pointer (some ⟨low12 + 1, 0, none⟩))]) }
theorem lib_met (os : Os) (args : Array Value) : laidMet Tryd.prog Rows.netTellsRow.laid ((libWorld os).forCall (fun _ _ => 0) ⟨#[], args, []⟩).memory :=
  laidMet_of_run' 8 (by kernel_rfl) (by kernel_rfl)
/-- An argument that is an address. -/
theorem open_adr {W : World} {r : Reach} {b0 : Nat} {v : Value} (hv : Value.okWide Tryd.prog W r b0 24 v) : ∃ a : Adr, a.Ok ∧ v = .agg (adrV a).toArray := by
  simp only [Value.okWide, Tryd.underlying24] at hv
  obtain ⟨cs, rfl, hsz, hrow⟩ := hv
  have h17 : cs.size = 17 := by rw [hsz]; kernel_rfl
  obtain ⟨ts, hts, -, hall⟩ := hrow
  have e : Tryd.prog.cellTypes Tryd.prog.depth 24 = some (4 :: List.replicate 16 5) := by kernel_rfl
  rw [e] at hts
  cases hts
  have hlen : (4 :: List.replicate 16 5).length = 17 := rfl
  have h0 : ∃ b, cs[0]? = some (.bool b) := by
    obtain ⟨u, hu, hc⟩ := hall 0 cs[0] (by simp [h17])
    rw [hlen] at hu
    cases hu
    unfold Cell.okWide Cell.ok at hc
    simp only [Tryd.underlying4] at hc
    cases hv : cs[0] <;> rw [hv] at hc <;> simp at hc
    rename_i bb
    exact ⟨bb, by simp [h17, hv]⟩
  have hb : ∀ i, 1 ≤ i → i < 17 → ∃ x : UInt8, cs[i]? = some (.int .u8 (x.toNat : Int)) := by
    intro i h1 h2
    obtain ⟨u, hu, hc⟩ := hall i (cs[i]'(by omega)) (by simp [h17, h2])
    rw [hlen, Nat.mod_eq_of_lt h2] at hu
    have hu8 : u = 5 := by
      obtain ⟨j, rfl⟩ : ∃ j, i = j + 1 := ⟨i - 1, by omega⟩
      rw [List.getElem?_cons_succ, List.getElem?_replicate, if_pos (by omega)] at hu
      exact (Option.some.inj hu).symm
    subst hu8
    unfold Cell.okWide Cell.ok at hc
    simp only [Tryd.underlying5] at hc
    cases hv : cs[i]'(by omega) <;> rw [hv] at hc <;> simp at hc
    rename_i k z
    obtain ⟨rfl, hz⟩ := hc
    have hz0 : 0 ≤ z ∧ z ≤ 255 := by
      have h := hz
      unfold IntKind.has at h
      exact ⟨h.1, h.2⟩
    refine ⟨UInt8.ofNat z.toNat, ?_⟩
    rw [Array.getElem?_eq_getElem (by omega), hv, UInt8.toNat_ofNat']
    congr 2
    omega
  obtain ⟨b0, e0⟩ := h0
  let l : List UInt8 := (List.range 16).map fun i => if h : 1 ≤ i + 1 ∧ i + 1 < 17 then Classical.choose (hb (i + 1) h.1 h.2) else 0
  refine ⟨⟨b0, l⟩, by show l.length = 16; simp [l], ?_⟩
  congr 1
  apply Array.ext_getElem?
  intro i
  cases i with
  | zero => exact e0
  | succ i =>
    have e2 : (adrV ⟨b0, l⟩).toArray[i + 1]? = (byts l)[i]? := by rw [List.getElem?_toArray]; rfl
    rw [e2]
    by_cases hi : i < 16
    · have hx := Classical.choose_spec (hb (i + 1) (by omega) (by omega))
      rw [hx, get_byts l i (by simp [l]; exact hi)]
      congr 3
      simp [l, hi]
      rw [dif_pos (by omega)]
    · rw [Array.getElem?_eq_none (by omega), List.getElem?_eq_none (by rw [length_byts]; simp [l]; omega)]
/-- An argument that is a range. -/
theorem open_rng {W : World} {r : Reach} {b0 : Nat} {v : Value} (hv : Value.okWide Tryd.prog W r b0 26 v) : ∃ a : Rng, a.Ok ∧ v = .agg (rngV a).toArray := by
  simp only [Value.okWide, Tryd.underlying26] at hv
  obtain ⟨cs, rfl, hsz, hrow⟩ := hv
  have h18 : cs.size = 18 := by rw [hsz]; kernel_rfl
  obtain ⟨ts, hts, -, hall⟩ := hrow
  have e : Tryd.prog.cellTypes Tryd.prog.depth 26 = some (4 :: (List.replicate 16 5 ++ [3])) := by kernel_rfl
  rw [e] at hts
  cases hts
  have hlen : (4 :: (List.replicate 16 5 ++ [3])).length = 18 := rfl
  have h0 : ∃ b, cs[0]? = some (.bool b) := by
    obtain ⟨u, hu, hc⟩ := hall 0 cs[0] (by simp [h18])
    rw [hlen] at hu
    cases hu
    unfold Cell.okWide Cell.ok at hc
    simp only [Tryd.underlying4] at hc
    cases hv : cs[0] <;> rw [hv] at hc <;> simp at hc
    rename_i bb
    exact ⟨bb, by simp [h18, hv]⟩
  have hn : ∃ n : Int, -9223372036854775808 ≤ n ∧ n ≤ 9223372036854775807 ∧ cs[17]? = some (.int .i64 n) := by
    obtain ⟨u, hu, hc⟩ := hall 17 (cs[17]'(by omega)) (by simp [h18])
    rw [hlen] at hu
    cases hu
    unfold Cell.okWide Cell.ok at hc
    simp only [Tryd.underlying3] at hc
    cases hv : cs[17]'(by omega) <;> rw [hv] at hc <;> simp at hc
    rename_i k z
    obtain ⟨rfl, hz⟩ := hc
    unfold IntKind.has at hz
    exact ⟨z, hz.1, hz.2, by rw [Array.getElem?_eq_getElem (by omega), hv]⟩
  have hb : ∀ i, 1 ≤ i → i < 17 → ∃ x : UInt8, cs[i]? = some (.int .u8 (x.toNat : Int)) := by
    intro i h1 h2
    obtain ⟨u, hu, hc⟩ := hall i (cs[i]'(by omega)) (by simp)
    rw [hlen, Nat.mod_eq_of_lt (by omega)] at hu
    have hu8 : u = 5 := by
      obtain ⟨j, rfl⟩ : ∃ j, i = j + 1 := ⟨i - 1, by omega⟩
      rw [List.getElem?_cons_succ, List.getElem?_append_left (by rw [List.length_replicate]; omega), List.getElem?_replicate, if_pos (by omega)] at hu
      exact (Option.some.inj hu).symm
    subst hu8
    unfold Cell.okWide Cell.ok at hc
    simp only [Tryd.underlying5] at hc
    cases hv : cs[i]'(by omega) <;> rw [hv] at hc <;> simp at hc
    rename_i k z
    obtain ⟨rfl, hz⟩ := hc
    have hz0 : 0 ≤ z ∧ z ≤ 255 := by
      have h := hz
      unfold IntKind.has at h
      exact ⟨h.1, h.2⟩
    refine ⟨UInt8.ofNat z.toNat, ?_⟩
    rw [Array.getElem?_eq_getElem (by omega), hv, UInt8.toNat_ofNat']
    congr 2
    omega
  obtain ⟨b0, e0⟩ := h0
  obtain ⟨n, n0, n1, en⟩ := hn
  let l : List UInt8 := (List.range 16).map fun i => if h : 1 ≤ i + 1 ∧ i + 1 < 17 then Classical.choose (hb (i + 1) h.1 h.2) else 0
  have hll : l.length = 16 := by simp [l]
  refine ⟨⟨⟨b0, l⟩, n⟩, ⟨hll, n0, n1⟩, ?_⟩
  congr 1
  apply Array.ext_getElem?
  intro i
  have er : (rngV ⟨⟨b0, l⟩, n⟩).toArray[i]? = (Value.bool b0 :: (byts l ++ [Value.int .i64 n]))[i]? := by rw [List.getElem?_toArray]; rfl
  rw [er]
  cases i with
  | zero => exact e0
  | succ i =>
    rw [List.getElem?_cons_succ]
    by_cases hi : i < 16
    · have hx := Classical.choose_spec (hb (i + 1) (by omega) (by omega))
      rw [hx, List.getElem?_append_left (by rw [length_byts, hll]; exact hi), get_byts l i (by rw [hll]; exact hi)]
      congr 3
      simp [l, hi]
      rw [dif_pos (by omega)]
    · by_cases h16 : i = 16
      · subst h16
        rw [en, List.getElem?_append_right (by rw [length_byts, hll]; exact Nat.le_refl _), length_byts, hll]; rfl
      · rw [Array.getElem?_eq_none (by omega), List.getElem?_eq_none (by rw [List.length_append, length_byts, hll]; simp; omega)]
theorem hw_of_ints (zs : List Int) (h : ∀ j, j < zs.length → 0 ≤ zs.getD j 0 ∧ zs.getD j 0 ≤ 65535) : ∃ l : List Nat, l.length = zs.length ∧ (∀ n ∈ l, n ≤ 65535) ∧ zs.map (Value.int .u16) = hwV l := by
  induction zs with
  | nil => exact ⟨[], rfl, (fun n hn => by cases hn), rfl⟩
  | cons z zs ih =>
    have h0 := h 0 (by simp)
    obtain ⟨l, h1, h2, h3⟩ := ih (fun j hj => by simpa using h (j + 1) (by simpa using hj))
    simp only [List.getD_cons_zero] at h0
    refine ⟨z.toNat :: l, by simp [h1], fun n hn => ?_, ?_⟩
    · rcases List.mem_cons.1 hn with rfl | hn
      · omega
      · exact h2 n hn
    · show Value.int .u16 z :: zs.map (Value.int .u16) = Value.int .u16 (z.toNat : Int) :: hwV l
      rw [h3]
      congr 2
      omega
end Go.Proofs.YtflebnbpoboljaaDoor

namespace Go.Proofs.YtflebnbpoboljaaDoor.netTells
open Go.ChangeShapes Go.WideShapes Go.ChangeAt Go.RowKit

set_option maxRecDepth 100000 in
theorem contract (H : Type) (enc : TypeId × Value → H) (W : World) (base : Nat) (args : Array Value) (ds gs : List (DataW H)) (before : List MemPlace)
    (hval : ∀ (j : Nat) t v, Tryd.f3.params[j]? = some t → args[j]? = some v → Value.okWide Tryd.prog W .any base t v)
    (hW : DataW.Whole enc Tryd.prog Tryd.f3.params.toList Rows.netTellsSpec.vars false W args.toList ds gs before) (hL : laidMetH Tryd.prog Rows.netTellsRow.laid W) (hSh : W.ShapedOpen Tryd.prog) :
    Calls Tryd.prog 3 args W fun e W' => ∃ v, e = .returned v ∧ Rows.netTellsSpec.post enc Tryd.prog Tryd.f3 false true false false W args v W' := by
  have hW' := hW
  obtain ⟨p, q, hA0, hV, rfl, hfz, hnd⟩ := hW
  have hA : DataW.TrodAll enc Tryd.prog W 0 (fun _ => true) true Tryd.f3.params.toList args.toList ds p := hA0
  rw [Tryd.params3] at hA hval
  obtain ⟨v0, vs0, d0, ds0, p0, q0, hargs, rfl, rfl, h0, r0⟩ := trodAll_cons hA
  obtain ⟨v1, vs1, d1, ds1, p1, q1, rfl, rfl, rfl, h1, r1⟩ := trodAll_cons r0
  obtain ⟨v2, vs2, d2, ds2, p2, q2, rfl, rfl, rfl, h2, r2⟩ := trodAll_cons r1
  obtain ⟨rfl, rfl, rfl⟩ := trodAll_nil r2
  obtain rfl : args = #[v0, v1, v2] := by cases args; simp_all
  obtain ⟨rfl, rfl⟩ := trodVars_none hV
  have hT := env_of hL hSh
  have k0 := h0
  have lt0 : ∀ x ∈ p0, x.block < W.heap.size := by obtain ⟨m, hm⟩ := k0; exact DataW.trod_lt m _ _ _ hm
  have k1 := h1
  have lt1 : ∀ x ∈ p1, x.block < W.heap.size := by obtain ⟨m, hm⟩ := k1; exact DataW.trod_lt m _ _ _ hm
  have k2 := h2
  have lt2 : ∀ x ∈ p2, x.block < W.heap.size := by obtain ⟨m, hm⟩ := k2; exact DataW.trod_lt m _ _ _ hm
  obtain ⟨a0, ha0, rfl⟩ := open_rng (hval 0 26 v0 rfl rfl)
  obtain ⟨a1, ha1, rfl⟩ := open_adr (hval 1 24 v1 rfl rfl)
  obtain ⟨s2, rfl, rfl, rfl, hs2⟩ := Go.ChangeMaps.open_string Tryd.underlying9 (hval 2 9 v2 rfl rfl) h2
  obtain ⟨l2, rfl⟩ := bytes_str s2
  refine (ntells_walk a0 ha0 a1 ha1 l2 W hT).mono fun e W' ⟨he, bel⟩ => ?_
  subst he
  exact ⟨_, rfl, _, _, _, [], _, [], hW', trodAll_mk1 (shut_bool Tryd.underlying4 _), (trodAll_cons_mk (Below.trod laidOut (by kernel_rfl) (of_decide_eq_true (by kernel_rfl)) k0 bel lt0) (trodAll_cons_mk (Below.trod laidOut (by kernel_rfl) (of_decide_eq_true (by kernel_rfl)) k1 bel lt1) (trodAll_cons_mk (Below.trod laidOut (by kernel_rfl) (of_decide_eq_true (by kernel_rfl)) k2 bel lt2) trodAll_mk0))), rfl, bel.frame _, fun h => by cases h⟩
theorem laid_met (os : Os) : laidMet Tryd.prog Rows.netTellsRow.laid ((libWorld os).forCall (fun _ _ => 0) ⟨#[], #[.agg (rngV zeroR).toArray, .agg (adrV zeroA).toArray, .string { data := #[] }], []⟩).memory :=
  lib_met os _
theorem reads (os : Os) {H : Type} (enc : TypeId × Value → H) : ∃ places, DataW.whole enc Tryd.prog ((libWorld os).forCall (fun _ _ => 0) ⟨#[], #[.agg (rngV zeroR).toArray, .agg (adrV zeroA).toArray, .string { data := #[] }], []⟩).memory Tryd.f3.params.toList Rows.netTellsSpec.vars false (#[.agg (rngV zeroR).toArray, .agg (adrV zeroA).toArray, .string { data := #[] }] : Array Value).toList 8 = some ([.agg [.agg [.lit (.bool false), .agg (List.replicate 16 (.lit (.int .u8 0)))], .lit (.int .i64 0)], .agg [.lit (.bool false), .agg (List.replicate 16 (.lit (.int .u8 0)))], .lit (.string [])], [], places) :=
  ⟨[], by kernel_rfl⟩
set_option maxRecDepth 100000 in
theorem lifted (os : Os) (started : os.Started) (H : Type) (enc : TypeId × Value → H) (F : Stop.Interp) :
    ReturnsInHanded {} Tryd.checked os 3 .any ((OpenSpec.ofChange Rows.netTellsSpec).preRow enc Tryd.prog Tryd.f3 Rows.netTellsRow.domain false Rows.netTellsRow.laid) (((OpenSpec.ofChange Rows.netTellsSpec).at F).post enc Tryd.prog Tryd.f3 false true false false) := by
  obtain ⟨places, hx⟩ := reads os enc
  refine returnsInHanded_of_row (C := Tryd.checked) (s := OpenSpec.ofChange Rows.netTellsSpec) own started (by kernel_rfl) Tryd.func3
    (witness_row_at (enc := enc) (C := Tryd.checked) false (libWorld os) #[.agg (rngV zeroR).toArray, .agg (adrV zeroA).toArray, .string { data := #[] }] rfl (by kernel_rfl) (by kernel_rfl) (by kernel_rfl)
      (OpenSpec.preRow_of_cond 8 hx (by kernel_rfl) (fun k hk => by cases hk) (by kernel_rfl) (laid_met os))) ?_
  intro W base args ds gs before hval hW _ _ _ hL hSh _
  exact contract H enc W base args ds gs before hval hW hL hSh
theorem said : Rows.NetTellsSaid :=
  OpenClaim.holds_of_cond 3 Tryd.f3 rfl rfl rfl rfl rfl rfl rfl ⟨rfl, rfl, rfl, rfl, rfl⟩ rfl rfl rfl rfl rfl (by kernel_rfl) Tryd.func3 (by kernel_rfl)
    (of_decide_eq_true (by kernel_rfl)) (by unfold Func.isWrapper; first | (rw [if_pos (by decide +kernel)]; kernel_rfl) | (rw [if_neg (by decide +kernel)]; exact ⟨rfl, rfl⟩))
    (fun os started H enc _ F => by rw [OpenClaim.pre_eq_preRow]; exact lifted os started H enc F)
/-- No parameter wants a stand-in; the program's own looks are off. -/
theorem plain (f : FuncId) (fn : Func) (hf : Tryd.pinned.checked.prog.funcNamed "chitty/chittylaw13.NetTells" = some f) (hfn : Tryd.pinned.checked.prog.funcs[f]? = some fn) :
    true = Tryd.pinned.checked.prog.looks [] ∧ ∀ (j : Nat) t, fn.params[j]? = some t → Tryd.pinned.checked.prog.wantsStandIn t = false := by
  obtain rfl : f = 3 := Option.some.inj ((show Tryd.prog.funcNamed "chitty/chittylaw13.NetTells" = some 3 by kernel_rfl).symm.trans hf) |>.symm
  obtain rfl : fn = Tryd.f3 := (Option.some.inj (Tryd.func3.symm.trans hfn)).symm
  refine ⟨by kernel_rfl, fun j t ht => ?_⟩
  rw [Tryd.params3] at ht
  have hm := Array.mem_of_getElem? ht
  simp only [List.mem_toArray, List.mem_cons, List.not_mem_nil, or_false] at hm
  rcases hm with rfl | rfl | rfl
  · exact (show Tryd.prog.wantsStandIn 26 = false by kernel_rfl)
  · exact (show Tryd.prog.wantsStandIn 24 = false by kernel_rfl)
  · exact (show Tryd.prog.wantsStandIn 9 = false by kernel_rfl)
theorem card : Rows.NetTellsCardSaid :=
  Claim7.holds_tied_plain_at .later [] _ _ _ _ said (fun _ h => by cases h) (by kernel_rfl) (fun _ h => by cases h) netTells_row_tie rfl ⟨rfl, rfl⟩ (by kernel_rfl) rfl plain (by kernel_rfl)
end Go.Proofs.YtflebnbpoboljaaDoor.netTells
