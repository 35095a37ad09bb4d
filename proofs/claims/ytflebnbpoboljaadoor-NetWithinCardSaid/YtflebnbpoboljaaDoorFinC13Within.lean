/- LAYER 13, NetWithin, proved: for any two ranges and any address, and every state of memory in which the library's listed variables lie as its text lays them, the call returns true and turns nothing that was there: whether the one range is in the other one is the document's answer, what is in the one is then in the other one, and a range that can be is in itself; the range of an address's own bits has it. Conditions: the library's tables and sentinels as laid (the card ties them to the program's text). -/
import Derived.Test.YtflebnbpoboljaaDoorGYp
import Derived.Test.YtflebnbpoboljaaDoorGYl
import Derived.Test.YtflebnbpoboljaaDoorK
import Derived.Test.YtflebnbpoboljaaDoorCards
import Derived.Test.YtflebnbpoboljaaDoorTie
import Derived.Test.YtflebnbpoboljaaDoorGAd3
import Derived.Test.YtflebnbpoboljaaDoorAd0
import Derived.Stop.LaidErr
import Derived.Shelf.Vars
/- LAYER 13, NetWithin: the walk of the law. -/
namespace Go.Proofs.YtflebnbpoboljaaDoor
set_option maxRecDepth 100000
open Go Go.RowKit

set_option maxHeartbeats 8000000 in
theorem nwithin_walk (a : Rng) (ha : a.Ok) (b : Rng) (hb : b.Ok) (x : Adr) (hx : x.Ok) (w : World) (hE : Env w) :
    Calls Tryd.prog 4 #[.agg (rngV a).toArray, .agg (rngV b).toArray, .agg (adrV x).toArray] w fun e w' => e = .returned (.bool true) ∧ Below w.heap.size w w' := by
  have hal := Lib.hid (fun w' hE => netAlive_any w' hE)
  have hwi := Lib.hid (fun w' => awithin_any a b ha hb w')
  have hrwi := Lib.hid (fun w' => rwithin_any a b ha hb w')
  have hwaa := Lib.hid (fun w' => awithin_any a a ha ha w')
  rw [withinR_self] at hwaa
  have hck := Lib.hid (fun w' => acheckR_any a ha w')
  have hax := Lib.hid (fun w' => ahas_any a ha x hx w')
  have hbx := Lib.hid (fun w' => ahas_any b hb x hx w')
  have hof := Lib.hid (fun w' => aof_any x hx a.n w')
  have hOo := ofR_ok x a.n ha.lo ha.hi
  have hhas := withinR_has a b ha.a hb.a x
  have HO := Lib.hid (show ofOk x a.n = true → (∀ w', Calls Tryd.prog 15 #[.agg (rngV (ofR x a.n)).toArray, .agg (adrV x).toArray] w' fun e w'' => e = .returned (.bool true) ∧ Below w'.heap.size w' w'') ∧ (∀ w', Calls Tryd.prog 11 #[.agg (rngV (ofR x a.n)).toArray] w' fun e w'' => e = .returned (.bool true) ∧ Below w'.heap.size w' w'') by
    intro ho
    have e := ofR_good x a.n ho
    refine ⟨fun w' => ?_, fun w' => ?_⟩
    · have := ahas_any (ofR x a.n) hOo x hx w'
      rwa [show hasR (ofR x a.n) x = true by rw [e]; exact hasR_top x a.n ho] at this
    · have := acheckR_any (ofR x a.n) hOo w'
      rwa [show checkR (ofR x a.n) = true by rw [e]; exact checkR_top x a.n ho] at this)
  obtain ⟨Q, hQ⟩ : ∃ Q, Q = rngV a := ⟨_, rfl⟩
  obtain ⟨P, hP⟩ : ∃ P, P = rngV b := ⟨_, rfl⟩
  obtain ⟨V, hV⟩ : ∃ V, V = adrV x := ⟨_, rfl⟩
  obtain ⟨O, hO⟩ : ∃ O, O = rngV (ofR x a.n) := ⟨_, rfl⟩
  have HQ := Lib.hid (show Q = adrV a.a ++ [Value.int .i64 a.n] by rw [hQ]; rfl)
  have HQl := Lib.hid (length_adrV ha.a)
  have hzV := Lib.hid (show (Tryd.prog.info? 24).map (·.size) = some V.length by rw [hV, size_adr, length_adrV hx])
  have hzQ := Lib.hid (show (Tryd.prog.info? 26).map (·.size) = some Q.length by rw [hQ, size_rng, length_rngV' a ha.a])
  have hzP := Lib.hid (show (Tryd.prog.info? 26).map (·.size) = some P.length by rw [hP, size_rng, length_rngV' b hb.a])
  have hzO := Lib.hid (show (Tryd.prog.info? 26).map (·.size) = some O.length by rw [hO, size_rng, length_rngV' _ hOo.a])
  have hzO2 := Lib.hid (show (Tryd.prog.info? 26).map (·.size) = some O.toArray.size by rw [List.size_toArray]; exact hzO.out)
  have h18O := Lib.hid (show (18 : Nat) = O.toArray.size by rw [hO, List.size_toArray, length_rngV' _ hOo.a])
  have hO1 := Lib.hid (show O.toArray.all (·.oneCell') = true by rw [hO]; exact rngV_one' _)
  rw [← hQ] at hwi hrwi hwaa hck hax
  rw [← hP] at hwi hrwi hbx
  rw [← hV] at hax hbx hof HO
  rw [← hO] at hof HO
  rw [← hQ, ← hP, ← hV]
  obtain ⟨w1, hw1⟩ : ∃ w1, w1 = ((w.alloc (.cells Q.toArray 26)).alloc (.cells P.toArray 26)).alloc (.cells V.toArray 24) := ⟨_, rfl⟩
  obtain ⟨r1, p1, q1, hb1⟩ := three_rows hw1.symm
  have hE1 := hE.next hb1
  have HW := Lib.hid hw1
  generalize hn : a.n = n at *
  generalize hckv : checkR a = ck at *
  clear hw1 hE hQ hP hV hO hOo hn hckv
  cases hI : withinR a b with
  | false =>
    rw [hI] at hwi hrwi
    clear hI hhas hax hbx
    go_enter Tryd.func4, Tryd.ntmps4
    go_wp2_with (first
      | (go_at_call 6; rw [← HW.out]; refine (hal.out _ hE1).mono ?_; rintro e w2 ⟨rfl, hb2⟩; have hE2 := hE1.next hb2; have r1 := r1.later hb2 r1.lt; have p1 := p1.later hb2 p1.lt; have q1 := q1.later hb2 q1.lt; have hb2 := hb1.trans (hb2.mono hb1.size))
      | (have _t := hE2; with_reducible refine wpList_load_mid rfl 26 (.tmp 3) rfl w.heap.size 0 rfl Q _ (row_range r1) Tryd.underlying26 rfl hzQ.out ?_)
      | (have _t := hE2; with_reducible refine wpList_load_mid rfl 26 (.tmp 4) rfl (w.heap.size + 1) 0 rfl P _ (row_range p1) Tryd.underlying26 rfl hzP.out ?_)
      | (go_at_call 17; have _t := hE2; refine (hwi.out _).mono ?_; rintro e w3 ⟨rfl, hb3⟩; have hE3 := hE2.next hb3; have r1 := r1.later hb3 r1.lt; have p1 := p1.later hb3 p1.lt; have q1 := q1.later hb3 q1.lt; have hb3 := hb2.trans (hb3.mono hb2.size); clear hE1 hE2; refine Hid.out ?_))
    refine Lib.hid ?_
    go_wp2
    refine wp_region_noPanic ?_
    refine wp_region_held_drew (S := fun w' => Below w3.heap.size w3 w') (by kernel_rfl) ((Below.refl _ _).drew) (fun hHeld => ?_)
    have hB := hHeld
    refine rtake 0 _ (some 15) _ rfl rfl (by kernel_rfl) (by kernel_rfl) (by kernel_rfl) (fun _ _ _ h => h) (by rfl) hHeld (by intro w hS; go_simp; try with_reducible rfl) ?_
    try (first | (rw [put_some]; dsimp only [List.set]) | rw [put_none])
    refine rtake 1 _ (some 16) _ rfl rfl (by kernel_rfl) (by kernel_rfl) (by kernel_rfl) (fun _ _ _ h => h) (by rfl) hHeld (by intro w hS; exact run_load_op 26 (.tmp 3) rfl _ 0 rfl Q _ (row_range (r1.later hS r1.lt)) Tryd.underlying26 rfl hzQ.out) ?_
    try (first | (rw [put_some]; dsimp only [List.set]) | rw [put_none])
    refine rtake 2 _ (some 17) _ rfl rfl (by kernel_rfl) (by kernel_rfl) (by kernel_rfl) (fun _ _ _ h => h) (by rfl) hHeld (by intro w hS; exact run_load_op 26 (.tmp 4) rfl _ 0 rfl P _ (row_range (p1.later hS p1.lt)) Tryd.underlying26 rfl hzP.out) ?_
    try (first | (rw [put_some]; dsimp only [List.set]) | rw [put_none])
    refine wpAnyH_ready (rs := [3]) (by kernel_rfl) (by simp) (AllReadyH.cons (o := _) rfl (fun K hK => ?_) AllReadyH.nil)
    go_simp
    refine (hrwi.out _).mono ?_; rintro e ww33 ⟨rfl, hqw33⟩
    try go_wp2_with fail
    refine hK.out _ _ (hHeld.trans (hqw33.mono hHeld.size)) (fun hHeld' => ?_)
    clear hK K
    try (first | (rw [put_some]; dsimp only [List.set]) | rw [put_none])
    have hB := below_step hB hqw33
    have hB3 : Below ww33.heap.size ww33 ww33 := Below.refl _ _
    refine wpAnyH_narrow (S' := fun w' => Below ww33.heap.size ww33 w') (fun _ h => (hHeld.trans (hqw33.mono hHeld.size)).trans (h.mono (hHeld.trans (hqw33.mono hHeld.size)).size)) _ _ _ _ ?_
    clear hHeld
    have hHeld : Below ww33.heap.size ww33 ww33 := Below.refl _ _
    refine rtake 4 _ (some 19) _ rfl rfl (by kernel_rfl) (by kernel_rfl) (by kernel_rfl) (fun _ _ _ h => h) (by rfl) hHeld (by intro w hS; go_simp; try with_reducible rfl) ?_
    try (first | (rw [put_some]; dsimp only [List.set]) | rw [put_none])
    refine rtake 5 _ (some 20) _ rfl rfl (by kernel_rfl) (by kernel_rfl) (by kernel_rfl) (fun _ _ _ h => h) (by rfl) hHeld (by intro w hS; go_simp; try with_reducible rfl) ?_
    try (first | (rw [put_some]; dsimp only [List.set]) | rw [put_none])
    refine rtake 6 _ (some 21) _ rfl rfl (by kernel_rfl) (by kernel_rfl) (by kernel_rfl) (fun _ _ _ h => h) (by rfl) hHeld (by intro w hS; go_simp; try with_reducible rfl) ?_
    try (first | (rw [put_some]; dsimp only [List.set]) | rw [put_none])
    refine rtake 7 _ (some 22) _ rfl rfl (by kernel_rfl) (by kernel_rfl) (by kernel_rfl) (fun _ _ _ h => h) (by rfl) hHeld (by intro w hS; go_simp; try with_reducible rfl) ?_
    try (first | (rw [put_some]; dsimp only [List.set]) | rw [put_none])
    refine rskip 8 _ (some 23) rfl rfl (by kernel_rfl) (by kernel_rfl) (by kernel_rfl) (fun _ _ _ h => h) (by rfl) hHeld ?_
    try (first | (rw [put_some]; dsimp only [List.set]) | rw [put_none])
    refine rskip 9 _ (some 24) rfl rfl (by kernel_rfl) (by kernel_rfl) (by kernel_rfl) (fun _ _ _ h => h) (by rfl) hHeld ?_
    try (first | (rw [put_some]; dsimp only [List.set]) | rw [put_none])
    refine rskip 10 _ (some 25) rfl rfl (by kernel_rfl) (by kernel_rfl) (by kernel_rfl) (fun _ _ _ h => h) (by rfl) hHeld ?_
    try (first | (rw [put_some]; dsimp only [List.set]) | rw [put_none])
    refine rtake 11 _ (some 26) _ rfl rfl (by kernel_rfl) (by kernel_rfl) (by kernel_rfl) (fun _ _ _ h => h) (by rfl) hHeld (by intro w hS; go_simp; try with_reducible rfl) ?_
    try (first | (rw [put_some]; dsimp only [List.set]) | rw [put_none])
    refine rtake 12 _ (some 27) _ rfl rfl (by kernel_rfl) (by kernel_rfl) (by kernel_rfl) (fun _ _ _ h => h) (by rfl) hHeld (by intro w hS; go_simp; try with_reducible rfl) ?_
    try (first | (rw [put_some]; dsimp only [List.set]) | rw [put_none])
    refine rskip 13 _ (some 28) rfl rfl (by kernel_rfl) (by kernel_rfl) (by kernel_rfl) (fun _ _ _ h => h) (by rfl) hHeld ?_
    try (first | (rw [put_some]; dsimp only [List.set]) | rw [put_none])
    refine rskip 14 _ (some 29) rfl rfl (by kernel_rfl) (by kernel_rfl) (by kernel_rfl) (fun _ _ _ h => h) (by rfl) hHeld ?_
    try (first | (rw [put_some]; dsimp only [List.set]) | rw [put_none])
    refine rskip 15 _ (some 30) rfl rfl (by kernel_rfl) (by kernel_rfl) (by kernel_rfl) (fun _ _ _ h => h) (by rfl) hHeld ?_
    try (first | (rw [put_some]; dsimp only [List.set]) | rw [put_none])
    refine rskip 16 _ (some 31) rfl rfl (by kernel_rfl) (by kernel_rfl) (by kernel_rfl) (fun _ _ _ h => h) (by rfl) hHeld ?_
    try (first | (rw [put_some]; dsimp only [List.set]) | rw [put_none])
    refine rtake 17 _ (some 32) _ rfl rfl (by kernel_rfl) (by kernel_rfl) (by kernel_rfl) (fun _ _ _ h => h) (by rfl) hHeld (by intro w hS; go_simp; try with_reducible rfl) ?_
    try (first | (rw [put_some]; dsimp only [List.set]) | rw [put_none])
    refine rtake 18 _ (some 33) _ rfl rfl (by kernel_rfl) (by kernel_rfl) (by kernel_rfl) (fun _ _ _ h => h) (by rfl) hHeld (by intro w hS; go_simp; try with_reducible rfl) ?_
    try (first | (rw [put_some]; dsimp only [List.set]) | rw [put_none])
    refine rtake 19 _ (some 34) _ rfl rfl (by kernel_rfl) (by kernel_rfl) (by kernel_rfl) (fun _ _ _ h => h) (by rfl) hHeld (by intro w hS; go_simp; try with_reducible rfl) ?_
    try (first | (rw [put_some]; dsimp only [List.set]) | rw [put_none])
    refine rtake 20 _ (some 35) _ rfl rfl (by kernel_rfl) (by kernel_rfl) (by kernel_rfl) (fun _ _ _ h => h) (by rfl) hHeld (by intro w hS; exact run_load_op 26 (.tmp 3) rfl _ 0 rfl Q _ (row_range (r1.later (hB.trans (hS.mono hB.size)) r1.lt)) Tryd.underlying26 rfl hzQ.out) ?_
    try (first | (rw [put_some]; dsimp only [List.set]) | rw [put_none])
    refine rtake 21 _ (some 36) _ rfl rfl (by kernel_rfl) (by kernel_rfl) (by kernel_rfl) (fun _ _ _ h => h) (by rfl) hHeld (by intro w hS; exact run_load_op 26 (.tmp 3) rfl _ 0 rfl Q _ (row_range (r1.later (hB.trans (hS.mono hB.size)) r1.lt)) Tryd.underlying26 rfl hzQ.out) ?_
    try (first | (rw [put_some]; dsimp only [List.set]) | rw [put_none])
    refine rtake 23 _ (some 38) _ rfl rfl (by kernel_rfl) (by kernel_rfl) (by kernel_rfl) (fun _ _ _ h => h) (by rfl) hHeld (by intro w hS; exact run_load_op 26 (.tmp 3) rfl _ 0 rfl Q _ (row_range (r1.later (hB.trans (hS.mono hB.size)) r1.lt)) Tryd.underlying26 rfl hzQ.out) ?_
    try (first | (rw [put_some]; dsimp only [List.set]) | rw [put_none])
    refine wpAnyH_ready (rs := [22]) (by kernel_rfl) (by simp) (AllReadyH.cons (o := _) rfl (fun K hK => ?_) AllReadyH.nil)
    go_simp
    refine (hwaa.out _).mono ?_; rintro e ww322 ⟨rfl, hqw322⟩
    try go_wp2_with fail
    refine hK.out _ _ (hHeld.trans (hqw322.mono hHeld.size)) (fun hHeld' => ?_)
    clear hK K
    try (first | (rw [put_some]; dsimp only [List.set]) | rw [put_none])
    have hB := below_step hB hqw322
    have hB3 := below_step hB3 hqw322
    have hB22 : Below ww322.heap.size ww322 ww322 := Below.refl _ _
    refine wpAnyH_narrow (S' := fun w' => Below ww322.heap.size ww322 w') (fun _ h => (hHeld.trans (hqw322.mono hHeld.size)).trans (h.mono (hHeld.trans (hqw322.mono hHeld.size)).size)) _ _ _ _ ?_
    clear hHeld
    have hHeld : Below ww322.heap.size ww322 ww322 := Below.refl _ _
    refine wpAnyH_ready (rs := [24]) (by kernel_rfl) (by simp) (AllReadyH.cons (o := _) rfl (fun K hK => ?_) AllReadyH.nil)
    go_simp
    refine (hck.out _).mono ?_; rintro e ww324 ⟨rfl, hqw324⟩
    try go_wp2_with fail
    refine hK.out _ _ (hHeld.trans (hqw324.mono hHeld.size)) (fun hHeld' => ?_)
    clear hK K
    try (first | (rw [put_some]; dsimp only [List.set]) | rw [put_none])
    have hB := below_step hB hqw324
    have hB3 := below_step hB3 hqw324
    have hB22 := below_step hB22 hqw324
    have hB24 : Below ww324.heap.size ww324 ww324 := Below.refl _ _
    refine wpAnyH_narrow (S' := fun w' => Below ww324.heap.size ww324 w') (fun _ h => (hHeld.trans (hqw324.mono hHeld.size)).trans (h.mono (hHeld.trans (hqw324.mono hHeld.size)).size)) _ _ _ _ ?_
    clear hHeld
    have hHeld : Below ww324.heap.size ww324 ww324 := Below.refl _ _
    refine rtake 25 _ (some 40) _ rfl rfl (by kernel_rfl) (by kernel_rfl) (by kernel_rfl) (fun _ _ _ h => h) (by rfl) hHeld (by intro w hS; go_simp; try with_reducible rfl) ?_
    try (first | (rw [put_some]; dsimp only [List.set]) | rw [put_none])
    refine rtake 26 _ (some 41) _ rfl rfl (by kernel_rfl) (by kernel_rfl) (by kernel_rfl) (fun _ _ _ h => h) (by rfl) hHeld (by intro w hS; go_simp; try with_reducible rfl) ?_
    try (first | (rw [put_some]; dsimp only [List.set]) | rw [put_none])
    refine wpAnyH_done (by kernel_rfl) ?_ _
    refine NoPanic.normal ?_
    have hE4 := hE3.next hB
    have r4 := r1.later hB r1.lt
    have q4 := q1.later hB q1.lt
    have hb4 := hb3.trans (hB.mono hb3.size)
    clear hHeld hB r1 q1 p1 hE3
    obtain ⟨w4, rfl⟩ : ∃ x : World, x = ww324 := ⟨_, rfl⟩
    have hcn4 := rng_n' HQl.out HQ.out r4
    cases ho : ofOk x n with
    | false =>
      rw [ho] at hof
      clear ho
      go_wp2_with (first
        | (with_reducible refine wpList_load_mid rfl 24 (.tmp 5) rfl (w.heap.size + 2) 0 rfl V _ (row_range q4) Tryd.underlying24 rfl hzV.out ?_)
        | (go_at_call 9; refine (hof.out _).mono ?_; rintro e w5 ⟨rfl, hb5⟩; have hb5 := hb4.trans (hb5.mono hb4.size))
        | (have _t := hb5; refine wpList_store_row rfl 26 (.tmp 8) (.tmp 47) rfl w5.heap.size O.toArray rfl rfl 26 _ (heap_alloc_new w5 _) hzO2.out h18O.out hO1.out ?_; refine Hid.out ?_))
      refine Lib.hid ?_
      generalize hw6 : World.setRow _ _ _ = w6
      obtain ⟨-, hb6'⟩ := row_new_set (xs := O) hw6
      have hb6 := hb5.trans (hb6'.mono hb5.size)
      clear hw6 hb6'
      go_wp2_with fail
      go_ret
      exact ⟨rfl, hb6⟩
    | true =>
      rw [ho] at hof
      have hho := Lib.hid (HO.out ho).1
      have hco := Lib.hid (HO.out ho).2
      clear ho HO
      go_wp2_with (first
        | (with_reducible refine wpList_load_mid rfl 24 (.tmp 5) rfl (w.heap.size + 2) 0 rfl V _ (row_range q4) Tryd.underlying24 rfl hzV.out ?_)
        | (go_at_call 9; refine (hof.out _).mono ?_; rintro e w5 ⟨rfl, hb5⟩; have q5 := q4.later hb5 q4.lt; have hb5 := hb4.trans (hb5.mono hb4.size))
        | (have _t := hb5; refine wpList_store_row rfl 26 (.tmp 8) (.tmp 47) rfl w5.heap.size O.toArray rfl rfl 26 _ (heap_alloc_new w5 _) hzO2.out h18O.out hO1.out ?_; refine Hid.out ?_))
      refine Lib.hid ?_
      generalize hw6 : World.setRow _ _ _ = w6
      obtain ⟨o6, hb6'⟩ := row_new_set (xs := O) hw6
      have q6 := q5.later hb6' q5.lt
      have hb6 := hb5.trans (hb6'.mono hb5.size)
      clear hw6 hb6' q4 q5 r4 hcn4
      generalize w5.heap.size = g8 at *
      have tok3 : True := trivial
      go_wp2_with (first
        | (have _t := tok3; refine wpList_step fun K hK => ?_; refine step_load_mid (some 52) rfl (by rfl) 26 (.tmp 8) rfl g8 0 rfl O _ (row_range o6) Tryd.underlying26 rfl hzO.out ?_; refine hK _ _ ?_; clear hK tok3)
        | (refine wpList_step fun K hK => ?_; refine step_load_mid (some 53) rfl (by rfl) 24 (.tmp 5) rfl (w.heap.size + 2) 0 rfl V _ (row_range q6) Tryd.underlying24 rfl hzV.out ?_; refine hK _ _ ?_; clear hK)
        | (go_at_call 15; refine (hho.out _).mono ?_; rintro e w7 ⟨rfl, hb7⟩; have o7 := o6.later hb7 o6.lt; have hb7 := hb6.trans (hb7.mono hb6.size))
        | (refine wpList_step fun K hK => ?_; refine step_load_mid (some 56) rfl (by rfl) 26 (.tmp 8) rfl g8 0 rfl O _ (row_range o7) Tryd.underlying26 rfl hzO.out ?_; refine hK _ _ ?_; clear hK)
        | (go_at_call 11; refine (hco.out _).mono ?_; rintro e w8 ⟨rfl, hb8⟩; have hb8 := hb7.trans (hb8.mono hb7.size)))
      go_ret
      exact ⟨rfl, hb8⟩
  | true =>
    have hhas := hhas hI
    rw [hI] at hwi hrwi
    clear hI
    cases hX : hasR a x with
    | false =>
      rw [hX] at hax
      clear hX hhas hbx
      go_enter Tryd.func4, Tryd.ntmps4
      go_wp2_with (first
        | (go_at_call 6; rw [← HW.out]; refine (hal.out _ hE1).mono ?_; rintro e w2 ⟨rfl, hb2⟩; have hE2 := hE1.next hb2; have r1 := r1.later hb2 r1.lt; have p1 := p1.later hb2 p1.lt; have q1 := q1.later hb2 q1.lt; have hb2 := hb1.trans (hb2.mono hb1.size))
        | (have _t := hE2; with_reducible refine wpList_load_mid rfl 26 (.tmp 3) rfl w.heap.size 0 rfl Q _ (row_range r1) Tryd.underlying26 rfl hzQ.out ?_)
        | (have _t := hE2; with_reducible refine wpList_load_mid rfl 26 (.tmp 4) rfl (w.heap.size + 1) 0 rfl P _ (row_range p1) Tryd.underlying26 rfl hzP.out ?_)
        | (go_at_call 17; have _t := hE2; refine (hwi.out _).mono ?_; rintro e w3 ⟨rfl, hb3⟩; have hE3 := hE2.next hb3; have r1 := r1.later hb3 r1.lt; have p1 := p1.later hb3 p1.lt; have q1 := q1.later hb3 q1.lt; have hb3 := hb2.trans (hb3.mono hb2.size); clear hE1 hE2; refine Hid.out ?_))
      refine Lib.hid ?_
      go_wp2
      refine wp_region_noPanic ?_
      refine wp_region_held_drew (S := fun w' => Below w3.heap.size w3 w') (by kernel_rfl) ((Below.refl _ _).drew) (fun hHeld => ?_)
      have hB := hHeld
      refine rtake 0 _ (some 15) _ rfl rfl (by kernel_rfl) (by kernel_rfl) (by kernel_rfl) (fun _ _ _ h => h) (by rfl) hHeld (by intro w hS; go_simp; try with_reducible rfl) ?_
      try (first | (rw [put_some]; dsimp only [List.set]) | rw [put_none])
      refine rtake 1 _ (some 16) _ rfl rfl (by kernel_rfl) (by kernel_rfl) (by kernel_rfl) (fun _ _ _ h => h) (by rfl) hHeld (by intro w hS; exact run_load_op 26 (.tmp 3) rfl _ 0 rfl Q _ (row_range (r1.later hS r1.lt)) Tryd.underlying26 rfl hzQ.out) ?_
      try (first | (rw [put_some]; dsimp only [List.set]) | rw [put_none])
      refine rtake 2 _ (some 17) _ rfl rfl (by kernel_rfl) (by kernel_rfl) (by kernel_rfl) (fun _ _ _ h => h) (by rfl) hHeld (by intro w hS; exact run_load_op 26 (.tmp 4) rfl _ 0 rfl P _ (row_range (p1.later hS p1.lt)) Tryd.underlying26 rfl hzP.out) ?_
      try (first | (rw [put_some]; dsimp only [List.set]) | rw [put_none])
      refine wpAnyH_ready (rs := [3]) (by kernel_rfl) (by simp) (AllReadyH.cons (o := _) rfl (fun K hK => ?_) AllReadyH.nil)
      go_simp
      refine (hrwi.out _).mono ?_; rintro e ww33 ⟨rfl, hqw33⟩
      try go_wp2_with fail
      refine hK.out _ _ (hHeld.trans (hqw33.mono hHeld.size)) (fun hHeld' => ?_)
      clear hK K
      try (first | (rw [put_some]; dsimp only [List.set]) | rw [put_none])
      have hB := below_step hB hqw33
      have hB3 : Below ww33.heap.size ww33 ww33 := Below.refl _ _
      refine wpAnyH_narrow (S' := fun w' => Below ww33.heap.size ww33 w') (fun _ h => (hHeld.trans (hqw33.mono hHeld.size)).trans (h.mono (hHeld.trans (hqw33.mono hHeld.size)).size)) _ _ _ _ ?_
      clear hHeld
      have hHeld : Below ww33.heap.size ww33 ww33 := Below.refl _ _
      refine rtake 4 _ (some 19) _ rfl rfl (by kernel_rfl) (by kernel_rfl) (by kernel_rfl) (fun _ _ _ h => h) (by rfl) hHeld (by intro w hS; go_simp; try with_reducible rfl) ?_
      try (first | (rw [put_some]; dsimp only [List.set]) | rw [put_none])
      refine rtake 5 _ (some 20) _ rfl rfl (by kernel_rfl) (by kernel_rfl) (by kernel_rfl) (fun _ _ _ h => h) (by rfl) hHeld (by intro w hS; go_simp; try with_reducible rfl) ?_
      try (first | (rw [put_some]; dsimp only [List.set]) | rw [put_none])
      refine rtake 6 _ (some 21) _ rfl rfl (by kernel_rfl) (by kernel_rfl) (by kernel_rfl) (fun _ _ _ h => h) (by rfl) hHeld (by intro w hS; go_simp; try with_reducible rfl) ?_
      try (first | (rw [put_some]; dsimp only [List.set]) | rw [put_none])
      refine rtake 7 _ (some 22) _ rfl rfl (by kernel_rfl) (by kernel_rfl) (by kernel_rfl) (fun _ _ _ h => h) (by rfl) hHeld (by intro w hS; go_simp; try with_reducible rfl) ?_
      try (first | (rw [put_some]; dsimp only [List.set]) | rw [put_none])
      refine rtake 8 _ (some 23) _ rfl rfl (by kernel_rfl) (by kernel_rfl) (by kernel_rfl) (fun _ _ _ h => h) (by rfl) hHeld (by intro w hS; exact run_load_op 26 (.tmp 3) rfl _ 0 rfl Q _ (row_range (r1.later (hB.trans (hS.mono hB.size)) r1.lt)) Tryd.underlying26 rfl hzQ.out) ?_
      try (first | (rw [put_some]; dsimp only [List.set]) | rw [put_none])
      refine rtake 9 _ (some 24) _ rfl rfl (by kernel_rfl) (by kernel_rfl) (by kernel_rfl) (fun _ _ _ h => h) (by rfl) hHeld (by intro w hS; exact run_load_op 24 (.tmp 5) rfl _ 0 rfl V _ (row_range (q1.later (hB.trans (hS.mono hB.size)) q1.lt)) Tryd.underlying24 rfl hzV.out) ?_
      try (first | (rw [put_some]; dsimp only [List.set]) | rw [put_none])
      refine wpAnyH_ready (rs := [10]) (by kernel_rfl) (by simp) (AllReadyH.cons (o := _) rfl (fun K hK => ?_) AllReadyH.nil)
      go_simp
      refine (hax.out _).mono ?_; rintro e ww310 ⟨rfl, hqw310⟩
      try go_wp2_with fail
      refine hK.out _ _ (hHeld.trans (hqw310.mono hHeld.size)) (fun hHeld' => ?_)
      clear hK K
      try (first | (rw [put_some]; dsimp only [List.set]) | rw [put_none])
      have hB := below_step hB hqw310
      have hB3 := below_step hB3 hqw310
      have hB10 : Below ww310.heap.size ww310 ww310 := Below.refl _ _
      refine wpAnyH_narrow (S' := fun w' => Below ww310.heap.size ww310 w') (fun _ h => (hHeld.trans (hqw310.mono hHeld.size)).trans (h.mono (hHeld.trans (hqw310.mono hHeld.size)).size)) _ _ _ _ ?_
      clear hHeld
      have hHeld : Below ww310.heap.size ww310 ww310 := Below.refl _ _
      refine rtake 11 _ (some 26) _ rfl rfl (by kernel_rfl) (by kernel_rfl) (by kernel_rfl) (fun _ _ _ h => h) (by rfl) hHeld (by intro w hS; go_simp; try with_reducible rfl) ?_
      try (first | (rw [put_some]; dsimp only [List.set]) | rw [put_none])
      refine rtake 12 _ (some 27) _ rfl rfl (by kernel_rfl) (by kernel_rfl) (by kernel_rfl) (fun _ _ _ h => h) (by rfl) hHeld (by intro w hS; go_simp; try with_reducible rfl) ?_
      try (first | (rw [put_some]; dsimp only [List.set]) | rw [put_none])
      refine rskip 13 _ (some 28) rfl rfl (by kernel_rfl) (by kernel_rfl) (by kernel_rfl) (fun _ _ _ h => h) (by rfl) hHeld ?_
      try (first | (rw [put_some]; dsimp only [List.set]) | rw [put_none])
      refine rskip 14 _ (some 29) rfl rfl (by kernel_rfl) (by kernel_rfl) (by kernel_rfl) (fun _ _ _ h => h) (by rfl) hHeld ?_
      try (first | (rw [put_some]; dsimp only [List.set]) | rw [put_none])
      refine rskip 15 _ (some 30) rfl rfl (by kernel_rfl) (by kernel_rfl) (by kernel_rfl) (fun _ _ _ h => h) (by rfl) hHeld ?_
      try (first | (rw [put_some]; dsimp only [List.set]) | rw [put_none])
      refine rskip 16 _ (some 31) rfl rfl (by kernel_rfl) (by kernel_rfl) (by kernel_rfl) (fun _ _ _ h => h) (by rfl) hHeld ?_
      try (first | (rw [put_some]; dsimp only [List.set]) | rw [put_none])
      refine rtake 17 _ (some 32) _ rfl rfl (by kernel_rfl) (by kernel_rfl) (by kernel_rfl) (fun _ _ _ h => h) (by rfl) hHeld (by intro w hS; go_simp; try with_reducible rfl) ?_
      try (first | (rw [put_some]; dsimp only [List.set]) | rw [put_none])
      refine rtake 18 _ (some 33) _ rfl rfl (by kernel_rfl) (by kernel_rfl) (by kernel_rfl) (fun _ _ _ h => h) (by rfl) hHeld (by intro w hS; go_simp; try with_reducible rfl) ?_
      try (first | (rw [put_some]; dsimp only [List.set]) | rw [put_none])
      refine rtake 19 _ (some 34) _ rfl rfl (by kernel_rfl) (by kernel_rfl) (by kernel_rfl) (fun _ _ _ h => h) (by rfl) hHeld (by intro w hS; go_simp; try with_reducible rfl) ?_
      try (first | (rw [put_some]; dsimp only [List.set]) | rw [put_none])
      refine rtake 20 _ (some 35) _ rfl rfl (by kernel_rfl) (by kernel_rfl) (by kernel_rfl) (fun _ _ _ h => h) (by rfl) hHeld (by intro w hS; exact run_load_op 26 (.tmp 3) rfl _ 0 rfl Q _ (row_range (r1.later (hB.trans (hS.mono hB.size)) r1.lt)) Tryd.underlying26 rfl hzQ.out) ?_
      try (first | (rw [put_some]; dsimp only [List.set]) | rw [put_none])
      refine rtake 21 _ (some 36) _ rfl rfl (by kernel_rfl) (by kernel_rfl) (by kernel_rfl) (fun _ _ _ h => h) (by rfl) hHeld (by intro w hS; exact run_load_op 26 (.tmp 3) rfl _ 0 rfl Q _ (row_range (r1.later (hB.trans (hS.mono hB.size)) r1.lt)) Tryd.underlying26 rfl hzQ.out) ?_
      try (first | (rw [put_some]; dsimp only [List.set]) | rw [put_none])
      refine rtake 23 _ (some 38) _ rfl rfl (by kernel_rfl) (by kernel_rfl) (by kernel_rfl) (fun _ _ _ h => h) (by rfl) hHeld (by intro w hS; exact run_load_op 26 (.tmp 3) rfl _ 0 rfl Q _ (row_range (r1.later (hB.trans (hS.mono hB.size)) r1.lt)) Tryd.underlying26 rfl hzQ.out) ?_
      try (first | (rw [put_some]; dsimp only [List.set]) | rw [put_none])
      refine wpAnyH_ready (rs := [22]) (by kernel_rfl) (by simp) (AllReadyH.cons (o := _) rfl (fun K hK => ?_) AllReadyH.nil)
      go_simp
      refine (hwaa.out _).mono ?_; rintro e ww322 ⟨rfl, hqw322⟩
      try go_wp2_with fail
      refine hK.out _ _ (hHeld.trans (hqw322.mono hHeld.size)) (fun hHeld' => ?_)
      clear hK K
      try (first | (rw [put_some]; dsimp only [List.set]) | rw [put_none])
      have hB := below_step hB hqw322
      have hB3 := below_step hB3 hqw322
      have hB10 := below_step hB10 hqw322
      have hB22 : Below ww322.heap.size ww322 ww322 := Below.refl _ _
      refine wpAnyH_narrow (S' := fun w' => Below ww322.heap.size ww322 w') (fun _ h => (hHeld.trans (hqw322.mono hHeld.size)).trans (h.mono (hHeld.trans (hqw322.mono hHeld.size)).size)) _ _ _ _ ?_
      clear hHeld
      have hHeld : Below ww322.heap.size ww322 ww322 := Below.refl _ _
      refine wpAnyH_ready (rs := [24]) (by kernel_rfl) (by simp) (AllReadyH.cons (o := _) rfl (fun K hK => ?_) AllReadyH.nil)
      go_simp
      refine (hck.out _).mono ?_; rintro e ww324 ⟨rfl, hqw324⟩
      try go_wp2_with fail
      refine hK.out _ _ (hHeld.trans (hqw324.mono hHeld.size)) (fun hHeld' => ?_)
      clear hK K
      try (first | (rw [put_some]; dsimp only [List.set]) | rw [put_none])
      have hB := below_step hB hqw324
      have hB3 := below_step hB3 hqw324
      have hB10 := below_step hB10 hqw324
      have hB22 := below_step hB22 hqw324
      have hB24 : Below ww324.heap.size ww324 ww324 := Below.refl _ _
      refine wpAnyH_narrow (S' := fun w' => Below ww324.heap.size ww324 w') (fun _ h => (hHeld.trans (hqw324.mono hHeld.size)).trans (h.mono (hHeld.trans (hqw324.mono hHeld.size)).size)) _ _ _ _ ?_
      clear hHeld
      have hHeld : Below ww324.heap.size ww324 ww324 := Below.refl _ _
      refine rtake 25 _ (some 40) _ rfl rfl (by kernel_rfl) (by kernel_rfl) (by kernel_rfl) (fun _ _ _ h => h) (by rfl) hHeld (by intro w hS; go_simp; try with_reducible rfl) ?_
      try (first | (rw [put_some]; dsimp only [List.set]) | rw [put_none])
      refine rtake 26 _ (some 41) _ rfl rfl (by kernel_rfl) (by kernel_rfl) (by kernel_rfl) (fun _ _ _ h => h) (by rfl) hHeld (by intro w hS; go_simp; try with_reducible rfl) ?_
      try (first | (rw [put_some]; dsimp only [List.set]) | rw [put_none])
      refine wpAnyH_done (by kernel_rfl) ?_ _
      refine NoPanic.normal ?_
      have hE4 := hE3.next hB
      have r4 := r1.later hB r1.lt
      have q4 := q1.later hB q1.lt
      have hb4 := hb3.trans (hB.mono hb3.size)
      clear hHeld hB r1 q1 p1 hE3
      obtain ⟨w4, rfl⟩ : ∃ x : World, x = ww324 := ⟨_, rfl⟩
      have hcn4 := rng_n' HQl.out HQ.out r4
      cases ho : ofOk x n with
      | false =>
        rw [ho] at hof
        clear ho
        go_wp2_with (first
          | (with_reducible refine wpList_load_mid rfl 24 (.tmp 5) rfl (w.heap.size + 2) 0 rfl V _ (row_range q4) Tryd.underlying24 rfl hzV.out ?_)
          | (go_at_call 9; refine (hof.out _).mono ?_; rintro e w5 ⟨rfl, hb5⟩; have hb5 := hb4.trans (hb5.mono hb4.size))
          | (have _t := hb5; refine wpList_store_row rfl 26 (.tmp 8) (.tmp 47) rfl w5.heap.size O.toArray rfl rfl 26 _ (heap_alloc_new w5 _) hzO2.out h18O.out hO1.out ?_; refine Hid.out ?_))
        refine Lib.hid ?_
        generalize hw6 : World.setRow _ _ _ = w6
        obtain ⟨-, hb6'⟩ := row_new_set (xs := O) hw6
        have hb6 := hb5.trans (hb6'.mono hb5.size)
        clear hw6 hb6'
        go_wp2_with fail
        go_ret
        exact ⟨rfl, hb6⟩
      | true =>
        rw [ho] at hof
        have hho := Lib.hid (HO.out ho).1
        have hco := Lib.hid (HO.out ho).2
        clear ho HO
        go_wp2_with (first
          | (with_reducible refine wpList_load_mid rfl 24 (.tmp 5) rfl (w.heap.size + 2) 0 rfl V _ (row_range q4) Tryd.underlying24 rfl hzV.out ?_)
          | (go_at_call 9; refine (hof.out _).mono ?_; rintro e w5 ⟨rfl, hb5⟩; have q5 := q4.later hb5 q4.lt; have hb5 := hb4.trans (hb5.mono hb4.size))
          | (have _t := hb5; refine wpList_store_row rfl 26 (.tmp 8) (.tmp 47) rfl w5.heap.size O.toArray rfl rfl 26 _ (heap_alloc_new w5 _) hzO2.out h18O.out hO1.out ?_; refine Hid.out ?_))
        refine Lib.hid ?_
        generalize hw6 : World.setRow _ _ _ = w6
        obtain ⟨o6, hb6'⟩ := row_new_set (xs := O) hw6
        have q6 := q5.later hb6' q5.lt
        have hb6 := hb5.trans (hb6'.mono hb5.size)
        clear hw6 hb6' q4 q5 r4 hcn4
        generalize w5.heap.size = g8 at *
        have tok3 : True := trivial
        go_wp2_with (first
          | (have _t := tok3; refine wpList_step fun K hK => ?_; refine step_load_mid (some 52) rfl (by rfl) 26 (.tmp 8) rfl g8 0 rfl O _ (row_range o6) Tryd.underlying26 rfl hzO.out ?_; refine hK _ _ ?_; clear hK tok3)
          | (refine wpList_step fun K hK => ?_; refine step_load_mid (some 53) rfl (by rfl) 24 (.tmp 5) rfl (w.heap.size + 2) 0 rfl V _ (row_range q6) Tryd.underlying24 rfl hzV.out ?_; refine hK _ _ ?_; clear hK)
          | (go_at_call 15; refine (hho.out _).mono ?_; rintro e w7 ⟨rfl, hb7⟩; have o7 := o6.later hb7 o6.lt; have hb7 := hb6.trans (hb7.mono hb6.size))
          | (refine wpList_step fun K hK => ?_; refine step_load_mid (some 56) rfl (by rfl) 26 (.tmp 8) rfl g8 0 rfl O _ (row_range o7) Tryd.underlying26 rfl hzO.out ?_; refine hK _ _ ?_; clear hK)
          | (go_at_call 11; refine (hco.out _).mono ?_; rintro e w8 ⟨rfl, hb8⟩; have hb8 := hb7.trans (hb8.mono hb7.size)))
        go_ret
        exact ⟨rfl, hb8⟩
    | true =>
      rw [hX] at hax
      rw [hhas hX] at hbx
      clear hX hhas
      go_enter Tryd.func4, Tryd.ntmps4
      go_wp2_with (first
        | (go_at_call 6; rw [← HW.out]; refine (hal.out _ hE1).mono ?_; rintro e w2 ⟨rfl, hb2⟩; have hE2 := hE1.next hb2; have r1 := r1.later hb2 r1.lt; have p1 := p1.later hb2 p1.lt; have q1 := q1.later hb2 q1.lt; have hb2 := hb1.trans (hb2.mono hb1.size))
        | (have _t := hE2; with_reducible refine wpList_load_mid rfl 26 (.tmp 3) rfl w.heap.size 0 rfl Q _ (row_range r1) Tryd.underlying26 rfl hzQ.out ?_)
        | (have _t := hE2; with_reducible refine wpList_load_mid rfl 26 (.tmp 4) rfl (w.heap.size + 1) 0 rfl P _ (row_range p1) Tryd.underlying26 rfl hzP.out ?_)
        | (go_at_call 17; have _t := hE2; refine (hwi.out _).mono ?_; rintro e w3 ⟨rfl, hb3⟩; have hE3 := hE2.next hb3; have r1 := r1.later hb3 r1.lt; have p1 := p1.later hb3 p1.lt; have q1 := q1.later hb3 q1.lt; have hb3 := hb2.trans (hb3.mono hb2.size); clear hE1 hE2; refine Hid.out ?_))
      refine Lib.hid ?_
      go_wp2
      refine wp_region_noPanic ?_
      refine wp_region_held_drew (S := fun w' => Below w3.heap.size w3 w') (by kernel_rfl) ((Below.refl _ _).drew) (fun hHeld => ?_)
      have hB := hHeld
      refine rtake 0 _ (some 15) _ rfl rfl (by kernel_rfl) (by kernel_rfl) (by kernel_rfl) (fun _ _ _ h => h) (by rfl) hHeld (by intro w hS; go_simp; try with_reducible rfl) ?_
      try (first | (rw [put_some]; dsimp only [List.set]) | rw [put_none])
      refine rtake 1 _ (some 16) _ rfl rfl (by kernel_rfl) (by kernel_rfl) (by kernel_rfl) (fun _ _ _ h => h) (by rfl) hHeld (by intro w hS; exact run_load_op 26 (.tmp 3) rfl _ 0 rfl Q _ (row_range (r1.later hS r1.lt)) Tryd.underlying26 rfl hzQ.out) ?_
      try (first | (rw [put_some]; dsimp only [List.set]) | rw [put_none])
      refine rtake 2 _ (some 17) _ rfl rfl (by kernel_rfl) (by kernel_rfl) (by kernel_rfl) (fun _ _ _ h => h) (by rfl) hHeld (by intro w hS; exact run_load_op 26 (.tmp 4) rfl _ 0 rfl P _ (row_range (p1.later hS p1.lt)) Tryd.underlying26 rfl hzP.out) ?_
      try (first | (rw [put_some]; dsimp only [List.set]) | rw [put_none])
      refine wpAnyH_ready (rs := [3]) (by kernel_rfl) (by simp) (AllReadyH.cons (o := _) rfl (fun K hK => ?_) AllReadyH.nil)
      go_simp
      refine (hrwi.out _).mono ?_; rintro e ww33 ⟨rfl, hqw33⟩
      try go_wp2_with fail
      refine hK.out _ _ (hHeld.trans (hqw33.mono hHeld.size)) (fun hHeld' => ?_)
      clear hK K
      try (first | (rw [put_some]; dsimp only [List.set]) | rw [put_none])
      have hB := below_step hB hqw33
      have hB3 : Below ww33.heap.size ww33 ww33 := Below.refl _ _
      refine wpAnyH_narrow (S' := fun w' => Below ww33.heap.size ww33 w') (fun _ h => (hHeld.trans (hqw33.mono hHeld.size)).trans (h.mono (hHeld.trans (hqw33.mono hHeld.size)).size)) _ _ _ _ ?_
      clear hHeld
      have hHeld : Below ww33.heap.size ww33 ww33 := Below.refl _ _
      refine rtake 4 _ (some 19) _ rfl rfl (by kernel_rfl) (by kernel_rfl) (by kernel_rfl) (fun _ _ _ h => h) (by rfl) hHeld (by intro w hS; go_simp; try with_reducible rfl) ?_
      try (first | (rw [put_some]; dsimp only [List.set]) | rw [put_none])
      refine rtake 5 _ (some 20) _ rfl rfl (by kernel_rfl) (by kernel_rfl) (by kernel_rfl) (fun _ _ _ h => h) (by rfl) hHeld (by intro w hS; go_simp; try with_reducible rfl) ?_
      try (first | (rw [put_some]; dsimp only [List.set]) | rw [put_none])
      refine rtake 6 _ (some 21) _ rfl rfl (by kernel_rfl) (by kernel_rfl) (by kernel_rfl) (fun _ _ _ h => h) (by rfl) hHeld (by intro w hS; go_simp; try with_reducible rfl) ?_
      try (first | (rw [put_some]; dsimp only [List.set]) | rw [put_none])
      refine rtake 7 _ (some 22) _ rfl rfl (by kernel_rfl) (by kernel_rfl) (by kernel_rfl) (fun _ _ _ h => h) (by rfl) hHeld (by intro w hS; go_simp; try with_reducible rfl) ?_
      try (first | (rw [put_some]; dsimp only [List.set]) | rw [put_none])
      refine rtake 8 _ (some 23) _ rfl rfl (by kernel_rfl) (by kernel_rfl) (by kernel_rfl) (fun _ _ _ h => h) (by rfl) hHeld (by intro w hS; exact run_load_op 26 (.tmp 3) rfl _ 0 rfl Q _ (row_range (r1.later (hB.trans (hS.mono hB.size)) r1.lt)) Tryd.underlying26 rfl hzQ.out) ?_
      try (first | (rw [put_some]; dsimp only [List.set]) | rw [put_none])
      refine rtake 9 _ (some 24) _ rfl rfl (by kernel_rfl) (by kernel_rfl) (by kernel_rfl) (fun _ _ _ h => h) (by rfl) hHeld (by intro w hS; exact run_load_op 24 (.tmp 5) rfl _ 0 rfl V _ (row_range (q1.later (hB.trans (hS.mono hB.size)) q1.lt)) Tryd.underlying24 rfl hzV.out) ?_
      try (first | (rw [put_some]; dsimp only [List.set]) | rw [put_none])
      refine wpAnyH_ready (rs := [10]) (by kernel_rfl) (by simp) (AllReadyH.cons (o := _) rfl (fun K hK => ?_) AllReadyH.nil)
      go_simp
      refine (hax.out _).mono ?_; rintro e ww310 ⟨rfl, hqw310⟩
      try go_wp2_with fail
      refine hK.out _ _ (hHeld.trans (hqw310.mono hHeld.size)) (fun hHeld' => ?_)
      clear hK K
      try (first | (rw [put_some]; dsimp only [List.set]) | rw [put_none])
      have hB := below_step hB hqw310
      have hB3 := below_step hB3 hqw310
      have hB10 : Below ww310.heap.size ww310 ww310 := Below.refl _ _
      refine wpAnyH_narrow (S' := fun w' => Below ww310.heap.size ww310 w') (fun _ h => (hHeld.trans (hqw310.mono hHeld.size)).trans (h.mono (hHeld.trans (hqw310.mono hHeld.size)).size)) _ _ _ _ ?_
      clear hHeld
      have hHeld : Below ww310.heap.size ww310 ww310 := Below.refl _ _
      refine rtake 11 _ (some 26) _ rfl rfl (by kernel_rfl) (by kernel_rfl) (by kernel_rfl) (fun _ _ _ h => h) (by rfl) hHeld (by intro w hS; go_simp; try with_reducible rfl) ?_
      try (first | (rw [put_some]; dsimp only [List.set]) | rw [put_none])
      refine rtake 12 _ (some 27) _ rfl rfl (by kernel_rfl) (by kernel_rfl) (by kernel_rfl) (fun _ _ _ h => h) (by rfl) hHeld (by intro w hS; go_simp; try with_reducible rfl) ?_
      try (first | (rw [put_some]; dsimp only [List.set]) | rw [put_none])
      refine rtake 13 _ (some 28) _ rfl rfl (by kernel_rfl) (by kernel_rfl) (by kernel_rfl) (fun _ _ _ h => h) (by rfl) hHeld (by intro w hS; exact run_load_op 26 (.tmp 4) rfl _ 0 rfl P _ (row_range (p1.later (hB.trans (hS.mono hB.size)) p1.lt)) Tryd.underlying26 rfl hzP.out) ?_
      try (first | (rw [put_some]; dsimp only [List.set]) | rw [put_none])
      refine rtake 14 _ (some 29) _ rfl rfl (by kernel_rfl) (by kernel_rfl) (by kernel_rfl) (fun _ _ _ h => h) (by rfl) hHeld (by intro w hS; exact run_load_op 24 (.tmp 5) rfl _ 0 rfl V _ (row_range (q1.later (hB.trans (hS.mono hB.size)) q1.lt)) Tryd.underlying24 rfl hzV.out) ?_
      try (first | (rw [put_some]; dsimp only [List.set]) | rw [put_none])
      refine wpAnyH_ready (rs := [15]) (by kernel_rfl) (by simp) (AllReadyH.cons (o := _) rfl (fun K hK => ?_) AllReadyH.nil)
      go_simp
      refine (hbx.out _).mono ?_; rintro e ww315 ⟨rfl, hqw315⟩
      try go_wp2_with fail
      refine hK.out _ _ (hHeld.trans (hqw315.mono hHeld.size)) (fun hHeld' => ?_)
      clear hK K
      try (first | (rw [put_some]; dsimp only [List.set]) | rw [put_none])
      have hB := below_step hB hqw315
      have hB3 := below_step hB3 hqw315
      have hB10 := below_step hB10 hqw315
      have hB15 : Below ww315.heap.size ww315 ww315 := Below.refl _ _
      refine wpAnyH_narrow (S' := fun w' => Below ww315.heap.size ww315 w') (fun _ h => (hHeld.trans (hqw315.mono hHeld.size)).trans (h.mono (hHeld.trans (hqw315.mono hHeld.size)).size)) _ _ _ _ ?_
      clear hHeld
      have hHeld : Below ww315.heap.size ww315 ww315 := Below.refl _ _
      refine rtake 16 _ (some 31) _ rfl rfl (by kernel_rfl) (by kernel_rfl) (by kernel_rfl) (fun _ _ _ h => h) (by rfl) hHeld (by intro w hS; go_simp; try with_reducible rfl) ?_
      try (first | (rw [put_some]; dsimp only [List.set]) | rw [put_none])
      refine rtake 17 _ (some 32) _ rfl rfl (by kernel_rfl) (by kernel_rfl) (by kernel_rfl) (fun _ _ _ h => h) (by rfl) hHeld (by intro w hS; go_simp; try with_reducible rfl) ?_
      try (first | (rw [put_some]; dsimp only [List.set]) | rw [put_none])
      refine rtake 18 _ (some 33) _ rfl rfl (by kernel_rfl) (by kernel_rfl) (by kernel_rfl) (fun _ _ _ h => h) (by rfl) hHeld (by intro w hS; go_simp; try with_reducible rfl) ?_
      try (first | (rw [put_some]; dsimp only [List.set]) | rw [put_none])
      refine rtake 19 _ (some 34) _ rfl rfl (by kernel_rfl) (by kernel_rfl) (by kernel_rfl) (fun _ _ _ h => h) (by rfl) hHeld (by intro w hS; go_simp; try with_reducible rfl) ?_
      try (first | (rw [put_some]; dsimp only [List.set]) | rw [put_none])
      refine rtake 20 _ (some 35) _ rfl rfl (by kernel_rfl) (by kernel_rfl) (by kernel_rfl) (fun _ _ _ h => h) (by rfl) hHeld (by intro w hS; exact run_load_op 26 (.tmp 3) rfl _ 0 rfl Q _ (row_range (r1.later (hB.trans (hS.mono hB.size)) r1.lt)) Tryd.underlying26 rfl hzQ.out) ?_
      try (first | (rw [put_some]; dsimp only [List.set]) | rw [put_none])
      refine rtake 21 _ (some 36) _ rfl rfl (by kernel_rfl) (by kernel_rfl) (by kernel_rfl) (fun _ _ _ h => h) (by rfl) hHeld (by intro w hS; exact run_load_op 26 (.tmp 3) rfl _ 0 rfl Q _ (row_range (r1.later (hB.trans (hS.mono hB.size)) r1.lt)) Tryd.underlying26 rfl hzQ.out) ?_
      try (first | (rw [put_some]; dsimp only [List.set]) | rw [put_none])
      refine rtake 23 _ (some 38) _ rfl rfl (by kernel_rfl) (by kernel_rfl) (by kernel_rfl) (fun _ _ _ h => h) (by rfl) hHeld (by intro w hS; exact run_load_op 26 (.tmp 3) rfl _ 0 rfl Q _ (row_range (r1.later (hB.trans (hS.mono hB.size)) r1.lt)) Tryd.underlying26 rfl hzQ.out) ?_
      try (first | (rw [put_some]; dsimp only [List.set]) | rw [put_none])
      refine wpAnyH_ready (rs := [22]) (by kernel_rfl) (by simp) (AllReadyH.cons (o := _) rfl (fun K hK => ?_) AllReadyH.nil)
      go_simp
      refine (hwaa.out _).mono ?_; rintro e ww322 ⟨rfl, hqw322⟩
      try go_wp2_with fail
      refine hK.out _ _ (hHeld.trans (hqw322.mono hHeld.size)) (fun hHeld' => ?_)
      clear hK K
      try (first | (rw [put_some]; dsimp only [List.set]) | rw [put_none])
      have hB := below_step hB hqw322
      have hB3 := below_step hB3 hqw322
      have hB10 := below_step hB10 hqw322
      have hB15 := below_step hB15 hqw322
      have hB22 : Below ww322.heap.size ww322 ww322 := Below.refl _ _
      refine wpAnyH_narrow (S' := fun w' => Below ww322.heap.size ww322 w') (fun _ h => (hHeld.trans (hqw322.mono hHeld.size)).trans (h.mono (hHeld.trans (hqw322.mono hHeld.size)).size)) _ _ _ _ ?_
      clear hHeld
      have hHeld : Below ww322.heap.size ww322 ww322 := Below.refl _ _
      refine wpAnyH_ready (rs := [24]) (by kernel_rfl) (by simp) (AllReadyH.cons (o := _) rfl (fun K hK => ?_) AllReadyH.nil)
      go_simp
      refine (hck.out _).mono ?_; rintro e ww324 ⟨rfl, hqw324⟩
      try go_wp2_with fail
      refine hK.out _ _ (hHeld.trans (hqw324.mono hHeld.size)) (fun hHeld' => ?_)
      clear hK K
      try (first | (rw [put_some]; dsimp only [List.set]) | rw [put_none])
      have hB := below_step hB hqw324
      have hB3 := below_step hB3 hqw324
      have hB10 := below_step hB10 hqw324
      have hB15 := below_step hB15 hqw324
      have hB22 := below_step hB22 hqw324
      have hB24 : Below ww324.heap.size ww324 ww324 := Below.refl _ _
      refine wpAnyH_narrow (S' := fun w' => Below ww324.heap.size ww324 w') (fun _ h => (hHeld.trans (hqw324.mono hHeld.size)).trans (h.mono (hHeld.trans (hqw324.mono hHeld.size)).size)) _ _ _ _ ?_
      clear hHeld
      have hHeld : Below ww324.heap.size ww324 ww324 := Below.refl _ _
      refine rtake 25 _ (some 40) _ rfl rfl (by kernel_rfl) (by kernel_rfl) (by kernel_rfl) (fun _ _ _ h => h) (by rfl) hHeld (by intro w hS; go_simp; try with_reducible rfl) ?_
      try (first | (rw [put_some]; dsimp only [List.set]) | rw [put_none])
      refine rtake 26 _ (some 41) _ rfl rfl (by kernel_rfl) (by kernel_rfl) (by kernel_rfl) (fun _ _ _ h => h) (by rfl) hHeld (by intro w hS; go_simp; try with_reducible rfl) ?_
      try (first | (rw [put_some]; dsimp only [List.set]) | rw [put_none])
      refine wpAnyH_done (by kernel_rfl) ?_ _
      refine NoPanic.normal ?_
      have hE4 := hE3.next hB
      have r4 := r1.later hB r1.lt
      have q4 := q1.later hB q1.lt
      have hb4 := hb3.trans (hB.mono hb3.size)
      clear hHeld hB r1 q1 p1 hE3
      obtain ⟨w4, rfl⟩ : ∃ x : World, x = ww324 := ⟨_, rfl⟩
      have hcn4 := rng_n' HQl.out HQ.out r4
      cases ho : ofOk x n with
      | false =>
        rw [ho] at hof
        clear ho
        go_wp2_with (first
          | (with_reducible refine wpList_load_mid rfl 24 (.tmp 5) rfl (w.heap.size + 2) 0 rfl V _ (row_range q4) Tryd.underlying24 rfl hzV.out ?_)
          | (go_at_call 9; refine (hof.out _).mono ?_; rintro e w5 ⟨rfl, hb5⟩; have hb5 := hb4.trans (hb5.mono hb4.size))
          | (have _t := hb5; refine wpList_store_row rfl 26 (.tmp 8) (.tmp 47) rfl w5.heap.size O.toArray rfl rfl 26 _ (heap_alloc_new w5 _) hzO2.out h18O.out hO1.out ?_; refine Hid.out ?_))
        refine Lib.hid ?_
        generalize hw6 : World.setRow _ _ _ = w6
        obtain ⟨-, hb6'⟩ := row_new_set (xs := O) hw6
        have hb6 := hb5.trans (hb6'.mono hb5.size)
        clear hw6 hb6'
        go_wp2_with fail
        go_ret
        exact ⟨rfl, hb6⟩
      | true =>
        rw [ho] at hof
        have hho := Lib.hid (HO.out ho).1
        have hco := Lib.hid (HO.out ho).2
        clear ho HO
        go_wp2_with (first
          | (with_reducible refine wpList_load_mid rfl 24 (.tmp 5) rfl (w.heap.size + 2) 0 rfl V _ (row_range q4) Tryd.underlying24 rfl hzV.out ?_)
          | (go_at_call 9; refine (hof.out _).mono ?_; rintro e w5 ⟨rfl, hb5⟩; have q5 := q4.later hb5 q4.lt; have hb5 := hb4.trans (hb5.mono hb4.size))
          | (have _t := hb5; refine wpList_store_row rfl 26 (.tmp 8) (.tmp 47) rfl w5.heap.size O.toArray rfl rfl 26 _ (heap_alloc_new w5 _) hzO2.out h18O.out hO1.out ?_; refine Hid.out ?_))
        refine Lib.hid ?_
        generalize hw6 : World.setRow _ _ _ = w6
        obtain ⟨o6, hb6'⟩ := row_new_set (xs := O) hw6
        have q6 := q5.later hb6' q5.lt
        have hb6 := hb5.trans (hb6'.mono hb5.size)
        clear hw6 hb6' q4 q5 r4 hcn4
        generalize w5.heap.size = g8 at *
        have tok3 : True := trivial
        go_wp2_with (first
          | (have _t := tok3; refine wpList_step fun K hK => ?_; refine step_load_mid (some 52) rfl (by rfl) 26 (.tmp 8) rfl g8 0 rfl O _ (row_range o6) Tryd.underlying26 rfl hzO.out ?_; refine hK _ _ ?_; clear hK tok3)
          | (refine wpList_step fun K hK => ?_; refine step_load_mid (some 53) rfl (by rfl) 24 (.tmp 5) rfl (w.heap.size + 2) 0 rfl V _ (row_range q6) Tryd.underlying24 rfl hzV.out ?_; refine hK _ _ ?_; clear hK)
          | (go_at_call 15; refine (hho.out _).mono ?_; rintro e w7 ⟨rfl, hb7⟩; have o7 := o6.later hb7 o6.lt; have hb7 := hb6.trans (hb7.mono hb6.size))
          | (refine wpList_step fun K hK => ?_; refine step_load_mid (some 56) rfl (by rfl) 26 (.tmp 8) rfl g8 0 rfl O _ (row_range o7) Tryd.underlying26 rfl hzO.out ?_; refine hK _ _ ?_; clear hK)
          | (go_at_call 11; refine (hco.out _).mono ?_; rintro e w8 ⟨rfl, hb8⟩; have hb8 := hb7.trans (hb8.mono hb7.size)))
        go_ret
        exact ⟨rfl, hb8⟩
end Go.Proofs.YtflebnbpoboljaaDoor

/- LAYER 13's cards (as layer 12's): what the library's listed variables hold; a world for the witness; an address as an argument. -/
namespace Go.Proofs.YtflebnbpoboljaaDoor
open Go Go.ChangeShapes Go.WideShapes Go.ChangeAt Go.RowKit
set_option maxRecDepth 100000

theorem shape_most {W : World} (h : W.ShapedOpen Tryd.prog) : ∃ m, W.cell? ⟨0, 0, none⟩ = some (.int .i64 m) :=
  Go.Proofs.cell_of_shapedOpen_int (zero := #[.int .i64 0]) (t := 3) h (of_decide_eq_true (by kernel_rfl)) (by kernel_rfl) rfl (by kernel_rfl) (by kernel_rfl) Tryd.underlying3
theorem g64 : Tryd.prog.globalNamed "math/bits.deBruijn64tab" = some 5 := by kernel_rfl
theorem gSyn : Tryd.prog.globalNamed "strconv.ErrSyntax" = some 1 := by kernel_rfl
theorem gRng : Tryd.prog.globalNamed "strconv.ErrRange" = some 2 := by kernel_rfl
def bruijn64 : List Int := [0, 1, 56, 2, 57, 49, 28, 3, 61, 58, 42, 50, 38, 29, 17, 4, 62, 47, 59, 36, 45, 43, 51, 22, 53, 39, 33, 30, 24, 18, 12, 5, 63, 55, 48, 27, 60, 41, 37, 16, 46, 35, 44, 21, 52, 32, 23, 11, 54, 26, 40, 15, 34, 20, 31, 10, 25, 14, 19, 9, 13, 8, 7, 6]
theorem star_es : "*" ++ "errors.errorString" = "*errors.errorString" := by decide
theorem type_string_ptr : ∀ u, Tryd.prog.typeName? 3 u = some "*errors.errorString" → u = 118 := fun u h =>
  typeName_ptr_named (nm := "errors.errorString") (by rw [star_es]; kernel_rfl) (by kernel_rfl) (by decide) u (by rw [star_es]; exact h)
/-- What the listed variables hold, as far as package addr comes to them. -/
theorem env_of {W : World} (h : laidMet Tryd.prog Rows.netTellsRow.laid W) (hs : W.ShapedOpen Tryd.prog) : Env W := by
  have h1 := laidMet.tail h
  have h2 := laidMet.tail h1
  have h4 := laidMet.tail (laidMet.tail h2)
  have h5 := laidMet.tail h4
  have t64 : Lib.TabIs Tryd.prog W "math/bits.deBruijn64tab" .u8 bruijn64 := Lib.tabIs_of_head (zs := bruijn64) g64 (t := 133) (by kernel_rfl) Tryd.underlying133 Tryd.underlying5 (by kernel_rfl) (by kernel_rfl) h1
  have tPow : Lib.TabIs Tryd.prog W "internal/strconv.uint64pow10" .u64 Lib.pow10Tab := Lib.tabIs_of_head (zs := Lib.pow10Tab) gPow (t := 122) (by kernel_rfl) Tryd.underlying122 Tryd.underlying86 (by kernel_rfl) (by kernel_rfl) h2
  obtain ⟨aR, sR, hR, -⟩ := laid_sentinel h4 gRng (by kernel_rfl) Tryd.underlying43 type_string_ptr Tryd.underlying118 Tryd.underlying120 rfl rfl Tryd.underlying9 (by kernel_rfl) (by kernel_rfl)
  obtain ⟨aS, sS, hS, -⟩ := laid_sentinel h5 gSyn (by kernel_rfl) Tryd.underlying43 type_string_ptr Tryd.underlying118 Tryd.underlying120 rfl rfl Tryd.underlying9 (by kernel_rfl) (by kernel_rfl)
  refine ⟨shape_most hs, tPow, t64.cell g64 15 (by decide), ⟨_, by simpa using World.var?_cell gSyn hS 0, .inr ⟨_, _, rfl⟩⟩, ⟨_, by simpa using World.var?_cell gRng hR 0, .inr ⟨_, _, rfl⟩⟩⟩
/-! One start that fits: the library's tables and sentinels as their initialisers lay them. -/
def setCells12 (cs : List Value) : Obj → Obj
  | .cells _ t frozen => .cells cs.toArray t frozen
  | o => o
def bruijn32 : List Int := [0, 1, 28, 2, 29, 14, 24, 3, 30, 22, 20, 15, 25, 17, 4, 8, 31, 27, 13, 23, 21, 19, 16, 7, 26, 12, 18, 6, 11, 5, 10, 9]
def accept32 : List Int := [128, 191, 160, 191, 128, 159, 144, 191, 128, 143] ++ List.replicate 22 0
def synS : ByteArray := { data := #[105, 110, 118, 97, 108, 105, 100, 32, 115, 121, 110, 116, 97, 120] }
def rngS : ByteArray := { data := #[118, 97, 108, 117, 101, 32, 111, 117, 116, 32, 111, 102, 32, 114, 97, 110, 103, 101] }
/-- So many blocks has the settled world. -/
noncomputable def low12 : Nat := (World.holding Tryd.prog default ⟨#[], #[], []⟩).heap.size
noncomputable def libWorld (os : Os) : World :=
  let w0 := World.holding Tryd.prog os ⟨#[.cells #[.string rngS] 120, .cells #[.string synS] 120], #[], []⟩
  { w0 with heap := ((((((w0.heap.modify 4 (setCells12 (bruijn32.map (Value.int .u8)))).modify 5 (setCells12 (bruijn64.map (Value.int .u8)))).modify 3 (setCells12 (Lib.pow10Tab.map (Value.int .u64)))).modify
      7 (setCells12 (accept32.map (Value.int .u8)))).modify 6 (setCells12 (Go.Pinned.utf8FirstZ.map fun n : Nat => Value.int .u8 (n : Int)))).modify
      2 (setCells12 [.iface 118 (.pointer (some ⟨low12, 0, none⟩))])).modify 1 (setCells12 [.iface 118 (.pointer (some ⟨low12 + 1, 0, none⟩))]) }
theorem lib_met (os : Os) (args : Array Value) : laidMet Tryd.prog Rows.netTellsRow.laid ((libWorld os).forCall (fun _ _ => 0) ⟨#[], args, []⟩).memory :=
  laidMet_of_run' 8 (by kernel_rfl) (by kernel_rfl)
/-- An argument that is an address. -/
theorem open_adr {W : World} {r : Reach} {b0 : Nat} {v : Value} (hv : Value.okWide Tryd.prog W r b0 24 v) : ∃ a : Adr, a.Ok ∧ v = .agg (adrV a).toArray := by
  simp only [Value.okWide, Tryd.underlying24] at hv
  obtain ⟨cs, rfl, hsz, hrow⟩ := hv
  have h17 : cs.size = 17 := by rw [hsz]; kernel_rfl
  obtain ⟨ts, hts, -, hall⟩ := hrow
  have e : Tryd.prog.cellTypes Tryd.prog.depth 24 = some (4 :: List.replicate 16 5) := by kernel_rfl
  rw [e] at hts
  cases hts
  have hlen : (4 :: List.replicate 16 5).length = 17 := rfl
  have h0 : ∃ b, cs[0]? = some (.bool b) := by
    obtain ⟨u, hu, hc⟩ := hall 0 cs[0] (by simp [h17])
    rw [hlen] at hu
    cases hu
    unfold Cell.okWide Cell.ok at hc
    simp only [Tryd.underlying4] at hc
    cases hv : cs[0] <;> rw [hv] at hc <;> simp at hc
    rename_i bb
    exact ⟨bb, by simp [h17, hv]⟩
  have hb : ∀ i, 1 ≤ i → i < 17 → ∃ x : UInt8, cs[i]? = some (.int .u8 (x.toNat : Int)) := by
    intro i h1 h2
    obtain ⟨u, hu, hc⟩ := hall i (cs[i]'(by omega)) (by simp [h17, h2])
    rw [hlen, Nat.mod_eq_of_lt h2] at hu
    have hu8 : u = 5 := by
      obtain ⟨j, rfl⟩ : ∃ j, i = j + 1 := ⟨i - 1, by omega⟩
      rw [List.getElem?_cons_succ, List.getElem?_replicate, if_pos (by omega)] at hu
      exact (Option.some.inj hu).symm
    subst hu8
    unfold Cell.okWide Cell.ok at hc
    simp only [Tryd.underlying5] at hc
    cases hv : cs[i]'(by omega) <;> rw [hv] at hc <;> simp at hc
    rename_i k z
    obtain ⟨rfl, hz⟩ := hc
    have hz0 : 0 ≤ z ∧ z ≤ 255 := by
      have h := hz
      unfold IntKind.has at h
      exact ⟨h.1, h.2⟩
    refine ⟨UInt8.ofNat z.toNat, ?_⟩
    rw [Array.getElem?_eq_getElem (by omega), hv, UInt8.toNat_ofNat']
    congr 2
    omega
  obtain ⟨b0, e0⟩ := h0
  let l : List UInt8 := (List.range 16).map fun i => if h : 1 ≤ i + 1 ∧ i + 1 < 17 then Classical.choose (hb (i + 1) h.1 h.2) else 0
  refine ⟨⟨b0, l⟩, by show l.length = 16; simp [l], ?_⟩
  congr 1
  apply Array.ext_getElem?
  intro i
  cases i with
  | zero => exact e0
  | succ i =>
    have e2 : (adrV ⟨b0, l⟩).toArray[i + 1]? = (byts l)[i]? := by rw [List.getElem?_toArray]; rfl
    rw [e2]
    by_cases hi : i < 16
    · have hx := Classical.choose_spec (hb (i + 1) (by omega) (by omega))
      rw [hx, get_byts l i (by simp [l]; exact hi)]
      congr 3
      simp [l, hi]
      rw [dif_pos (by omega)]
    · rw [Array.getElem?_eq_none (by omega), List.getElem?_eq_none (by rw [length_byts]; simp [l]; omega)]
/-- An argument that is a range. -/
theorem open_rng {W : World} {r : Reach} {b0 : Nat} {v : Value} (hv : Value.okWide Tryd.prog W r b0 26 v) : ∃ a : Rng, a.Ok ∧ v = .agg (rngV a).toArray := by
  simp only [Value.okWide, Tryd.underlying26] at hv
  obtain ⟨cs, rfl, hsz, hrow⟩ := hv
  have h18 : cs.size = 18 := by rw [hsz]; kernel_rfl
  obtain ⟨ts, hts, -, hall⟩ := hrow
  have e : Tryd.prog.cellTypes Tryd.prog.depth 26 = some (4 :: (List.replicate 16 5 ++ [3])) := by kernel_rfl
  rw [e] at hts
  cases hts
  have hlen : (4 :: (List.replicate 16 5 ++ [3])).length = 18 := rfl
  have h0 : ∃ b, cs[0]? = some (.bool b) := by
    obtain ⟨u, hu, hc⟩ := hall 0 cs[0] (by simp [h18])
    rw [hlen] at hu
    cases hu
    unfold Cell.okWide Cell.ok at hc
    simp only [Tryd.underlying4] at hc
    cases hv : cs[0] <;> rw [hv] at hc <;> simp at hc
    rename_i bb
    exact ⟨bb, by simp [h18, hv]⟩
  have hn : ∃ n : Int, -9223372036854775808 ≤ n ∧ n ≤ 9223372036854775807 ∧ cs[17]? = some (.int .i64 n) := by
    obtain ⟨u, hu, hc⟩ := hall 17 (cs[17]'(by omega)) (by simp [h18])
    rw [hlen] at hu
    cases hu
    unfold Cell.okWide Cell.ok at hc
    simp only [Tryd.underlying3] at hc
    cases hv : cs[17]'(by omega) <;> rw [hv] at hc <;> simp at hc
    rename_i k z
    obtain ⟨rfl, hz⟩ := hc
    unfold IntKind.has at hz
    exact ⟨z, hz.1, hz.2, by rw [Array.getElem?_eq_getElem (by omega), hv]⟩
  have hb : ∀ i, 1 ≤ i → i < 17 → ∃ x : UInt8, cs[i]? = some (.int .u8 (x.toNat : Int)) := by
    intro i h1 h2
    obtain ⟨u, hu, hc⟩ := hall i (cs[i]'(by omega)) (by simp)
    rw [hlen, Nat.mod_eq_of_lt (by omega)] at hu
    have hu8 : u = 5 := by
      obtain ⟨j, rfl⟩ : ∃ j, i = j + 1 := ⟨i - 1, by omega⟩
      rw [List.getElem?_cons_succ, List.getElem?_append_left (by rw [List.length_replicate]; omega), List.getElem?_replicate, if_pos (by omega)] at hu
      exact (Option.some.inj hu).symm
    subst hu8
    unfold Cell.okWide Cell.ok at hc
    simp only [Tryd.underlying5] at hc
    cases hv : cs[i]'(by omega) <;> rw [hv] at hc <;> simp at hc
    rename_i k z
    obtain ⟨rfl, hz⟩ := hc
    have hz0 : 0 ≤ z ∧ z ≤ 255 := by
      have h := hz
      unfold IntKind.has at h
      exact ⟨h.1, h.2⟩
    refine ⟨UInt8.ofNat z.toNat, ?_⟩
    rw [Array.getElem?_eq_getElem (by omega), hv, UInt8.toNat_ofNat']
    congr 2
    omega
  obtain ⟨b0, e0⟩ := h0
  obtain ⟨n, n0, n1, en⟩ := hn
  let l : List UInt8 := (List.range 16).map fun i => if h : 1 ≤ i + 1 ∧ i + 1 < 17 then Classical.choose (hb (i + 1) h.1 h.2) else 0
  have hll : l.length = 16 := by simp [l]
  refine ⟨⟨⟨b0, l⟩, n⟩, ⟨hll, n0, n1⟩, ?_⟩
  congr 1
  apply Array.ext_getElem?
  intro i
  have er : (rngV ⟨⟨b0, l⟩, n⟩).toArray[i]? = (Value.bool b0 :: (byts l ++ [Value.int .i64 n]))[i]? := by rw [List.getElem?_toArray]; rfl
  rw [er]
  cases i with
  | zero => exact e0
  | succ i =>
    rw [List.getElem?_cons_succ]
    by_cases hi : i < 16
    · have hx := Classical.choose_spec (hb (i + 1) (by omega) (by omega))
      rw [hx, List.getElem?_append_left (by rw [length_byts, hll]; exact hi), get_byts l i (by rw [hll]; exact hi)]
      congr 3
      simp [l, hi]
      rw [dif_pos (by omega)]
    · by_cases h16 : i = 16
      · subst h16
        rw [en, List.getElem?_append_right (by rw [length_byts, hll]; exact Nat.le_refl _), length_byts, hll]; rfl
      · rw [Array.getElem?_eq_none (by omega), List.getElem?_eq_none (by rw [List.length_append, length_byts, hll]; simp; omega)]
theorem hw_of_ints (zs : List Int) (h : ∀ j, j < zs.length → 0 ≤ zs.getD j 0 ∧ zs.getD j 0 ≤ 65535) : ∃ l : List Nat, l.length = zs.length ∧ (∀ n ∈ l, n ≤ 65535) ∧ zs.map (Value.int .u16) = hwV l := by
  induction zs with
  | nil => exact ⟨[], rfl, (fun n hn => by cases hn), rfl⟩
  | cons z zs ih =>
    have h0 := h 0 (by simp)
    obtain ⟨l, h1, h2, h3⟩ := ih (fun j hj => by simpa using h (j + 1) (by simpa using hj))
    simp only [List.getD_cons_zero] at h0
    refine ⟨z.toNat :: l, by simp [h1], fun n hn => ?_, ?_⟩
    · rcases List.mem_cons.1 hn with rfl | hn
      · omega
      · exact h2 n hn
    · show Value.int .u16 z :: zs.map (Value.int .u16) = Value.int .u16 (z.toNat : Int) :: hwV l
      rw [h3]
      congr 2
      omega
end Go.Proofs.YtflebnbpoboljaaDoor

namespace Go.Proofs.YtflebnbpoboljaaDoor.netWithin
open Go.ChangeShapes Go.WideShapes Go.ChangeAt Go.RowKit

set_option maxRecDepth 100000 in
theorem contract (H : Type) (enc : TypeId × Value → H) (W : World) (base : Nat) (args : Array Value) (ds gs : List (DataW H)) (before : List MemPlace)
    (hval : ∀ (j : Nat) t v, Tryd.f4.params[j]? = some t → args[j]? = some v → Value.okWide Tryd.prog W .any base t v)
    (hW : DataW.Whole enc Tryd.prog Tryd.f4.params.toList Rows.netWithinSpec.vars false W args.toList ds gs before) (hL : laidMetH Tryd.prog Rows.netWithinRow.laid W) (hSh : W.ShapedOpen Tryd.prog) :
    Calls Tryd.prog 4 args W fun e W' => ∃ v, e = .returned v ∧ Rows.netWithinSpec.post enc Tryd.prog Tryd.f4 false true false false W args v W' := by
  have hW' := hW
  obtain ⟨p, q, hA0, hV, rfl, hfz, hnd⟩ := hW
  have hA : DataW.TrodAll enc Tryd.prog W 0 (fun _ => true) true Tryd.f4.params.toList args.toList ds p := hA0
  rw [Tryd.params4] at hA hval
  obtain ⟨v0, vs0, d0, ds0, p0, q0, hargs, rfl, rfl, h0, r0⟩ := trodAll_cons hA
  obtain ⟨v1, vs1, d1, ds1, p1, q1, rfl, rfl, rfl, h1, r1⟩ := trodAll_cons r0
  obtain ⟨v2, vs2, d2, ds2, p2, q2, rfl, rfl, rfl, h2, r2⟩ := trodAll_cons r1
  obtain ⟨rfl, rfl, rfl⟩ := trodAll_nil r2
  obtain rfl : args = #[v0, v1, v2] := by cases args; simp_all
  obtain ⟨rfl, rfl⟩ := trodVars_none hV
  have hT := env_of hL hSh
  have k0 := h0
  have lt0 : ∀ x ∈ p0, x.block < W.heap.size := by obtain ⟨m, hm⟩ := k0; exact DataW.trod_lt m _ _ _ hm
  have k1 := h1
  have lt1 : ∀ x ∈ p1, x.block < W.heap.size := by obtain ⟨m, hm⟩ := k1; exact DataW.trod_lt m _ _ _ hm
  have k2 := h2
  have lt2 : ∀ x ∈ p2, x.block < W.heap.size := by obtain ⟨m, hm⟩ := k2; exact DataW.trod_lt m _ _ _ hm
  obtain ⟨a0, ha0, rfl⟩ := open_rng (hval 0 26 v0 rfl rfl)
  obtain ⟨a1, ha1, rfl⟩ := open_rng (hval 1 26 v1 rfl rfl)
  obtain ⟨a2, ha2, rfl⟩ := open_adr (hval 2 24 v2 rfl rfl)
  refine (nwithin_walk a0 ha0 a1 ha1 a2 ha2 W hT).mono fun e W' ⟨he, bel⟩ => ?_
  subst he
  exact ⟨_, rfl, _, _, _, [], _, [], hW', trodAll_mk1 (shut_bool Tryd.underlying4 _), (trodAll_cons_mk (Below.trod laidOut (by kernel_rfl) (of_decide_eq_true (by kernel_rfl)) k0 bel lt0) (trodAll_cons_mk (Below.trod laidOut (by kernel_rfl) (of_decide_eq_true (by kernel_rfl)) k1 bel lt1) (trodAll_cons_mk (Below.trod laidOut (by kernel_rfl) (of_decide_eq_true (by kernel_rfl)) k2 bel lt2) trodAll_mk0))), rfl, bel.frame _, fun h => by cases h⟩
theorem laid_met (os : Os) : laidMet Tryd.prog Rows.netWithinRow.laid ((libWorld os).forCall (fun _ _ => 0) ⟨#[], #[.agg (rngV zeroR).toArray, .agg (rngV zeroR).toArray, .agg (adrV zeroA).toArray], []⟩).memory :=
  lib_met os _
theorem reads (os : Os) {H : Type} (enc : TypeId × Value → H) : ∃ places, DataW.whole enc Tryd.prog ((libWorld os).forCall (fun _ _ => 0) ⟨#[], #[.agg (rngV zeroR).toArray, .agg (rngV zeroR).toArray, .agg (adrV zeroA).toArray], []⟩).memory Tryd.f4.params.toList Rows.netWithinSpec.vars false (#[.agg (rngV zeroR).toArray, .agg (rngV zeroR).toArray, .agg (adrV zeroA).toArray] : Array Value).toList 8 = some ([.agg [.agg [.lit (.bool false), .agg (List.replicate 16 (.lit (.int .u8 0)))], .lit (.int .i64 0)], .agg [.agg [.lit (.bool false), .agg (List.replicate 16 (.lit (.int .u8 0)))], .lit (.int .i64 0)], .agg [.lit (.bool false), .agg (List.replicate 16 (.lit (.int .u8 0)))]], [], places) :=
  ⟨[], by kernel_rfl⟩
set_option maxRecDepth 100000 in
theorem lifted (os : Os) (started : os.Started) (H : Type) (enc : TypeId × Value → H) (F : Stop.Interp) :
    ReturnsInHanded {} Tryd.checked os 4 .any ((OpenSpec.ofChange Rows.netWithinSpec).preRow enc Tryd.prog Tryd.f4 Rows.netWithinRow.domain false Rows.netWithinRow.laid) (((OpenSpec.ofChange Rows.netWithinSpec).at F).post enc Tryd.prog Tryd.f4 false true false false) := by
  obtain ⟨places, hx⟩ := reads os enc
  refine returnsInHanded_of_row (C := Tryd.checked) (s := OpenSpec.ofChange Rows.netWithinSpec) own started (by kernel_rfl) Tryd.func4
    (witness_row_at (enc := enc) (C := Tryd.checked) false (libWorld os) #[.agg (rngV zeroR).toArray, .agg (rngV zeroR).toArray, .agg (adrV zeroA).toArray] rfl (by kernel_rfl) (by kernel_rfl) (by kernel_rfl)
      (OpenSpec.preRow_of_cond 8 hx (by kernel_rfl) (fun k hk => by cases hk) (by kernel_rfl) (laid_met os))) ?_
  intro W base args ds gs before hval hW _ _ _ hL hSh _
  exact contract H enc W base args ds gs before hval hW hL hSh
theorem said : Rows.NetWithinSaid :=
  OpenClaim.holds_of_cond 4 Tryd.f4 rfl rfl rfl rfl rfl rfl rfl ⟨rfl, rfl, rfl, rfl, rfl⟩ rfl rfl rfl rfl rfl (by kernel_rfl) Tryd.func4 (by kernel_rfl)
    (of_decide_eq_true (by kernel_rfl)) (by unfold Func.isWrapper; first | (rw [if_pos (by decide +kernel)]; kernel_rfl) | (rw [if_neg (by decide +kernel)]; exact ⟨rfl, rfl⟩))
    (fun os started H enc _ F => by rw [OpenClaim.pre_eq_preRow]; exact lifted os started H enc F)
/-- No parameter wants a stand-in; the program's own looks are off. -/
theorem plain (f : FuncId) (fn : Func) (hf : Tryd.pinned.checked.prog.funcNamed "chitty/chittylaw13.NetWithin" = some f) (hfn : Tryd.pinned.checked.prog.funcs[f]? = some fn) :
    true = Tryd.pinned.checked.prog.looks [] ∧ ∀ (j : Nat) t, fn.params[j]? = some t → Tryd.pinned.checked.prog.wantsStandIn t = false := by
  obtain rfl : f = 4 := Option.some.inj ((show Tryd.prog.funcNamed "chitty/chittylaw13.NetWithin" = some 4 by kernel_rfl).symm.trans hf) |>.symm
  obtain rfl : fn = Tryd.f4 := (Option.some.inj (Tryd.func4.symm.trans hfn)).symm
  refine ⟨by kernel_rfl, fun j t ht => ?_⟩
  rw [Tryd.params4] at ht
  have hm := Array.mem_of_getElem? ht
  simp only [List.mem_toArray, List.mem_cons, List.not_mem_nil, or_false] at hm
  rcases hm with rfl | rfl | rfl
  · exact (show Tryd.prog.wantsStandIn 26 = false by kernel_rfl)
  · exact (show Tryd.prog.wantsStandIn 26 = false by kernel_rfl)
  · exact (show Tryd.prog.wantsStandIn 24 = false by kernel_rfl)
theorem card : Rows.NetWithinCardSaid :=
  Claim7.holds_tied_plain_at .later [] _ _ _ _ said (fun _ h => by cases h) (by kernel_rfl) (fun _ h => by cases h) netWithin_row_tie rfl ⟨rfl, rfl⟩ (by kernel_rfl) rfl plain (by kernel_rfl)
end Go.Proofs.YtflebnbpoboljaaDoor.netWithin
