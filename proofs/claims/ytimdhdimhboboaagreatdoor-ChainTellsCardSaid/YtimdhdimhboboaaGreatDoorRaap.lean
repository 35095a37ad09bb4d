/- Texts of this claim, one behind the other. -/
import Derived.Test.YtimdhdimhboboaaGreatDoorRaam
import Derived.Test.YtimdhdimhboboaaGreatDoorRaao
import Derived.Test.YtimdhdimhboboaaGreatDoorRaaa
import Derived.Test.YtimdhdimhboboaaGreatDoorCards
import Derived.Test.YtimdhdimhboboaaGreatDoorTie
import Derived.Stop.LaidErr
import Derived.Shelf.Vars
import Derived.Test.YtimdhdimhboboaaGreatDoorRaah
import Derived.Deep.Slices
import Derived.ChangeSame
/- LAYER 19: package chain: Attenuate. -/
namespace Go.Proofs.YtimdhdimhboboaaGreatDoor
set_option maxRecDepth 100000
open Go Go.RowKit

/-- What Attenuate comes to where Parse gave o: the error, and the token. -/
def errAtO (t : Tok) (s : List UInt8) (o : Option Prd) : Int := if t.bound = true then 6 else if o.isSome = true then errAdd t (plainC s) else 2
def attO (t : Tok) (s : List UInt8) (o : Option Prd) : Tok := if errAtO t s o = 0 then moreT t (plainC s) else zeroK
set_option maxHeartbeats 8000000 in
theorem jatt_T (t : Tok) (ht : t.Ok) (s : List UInt8) (o : Option Prd) (hpr : ∀ w', EnvQ w' → Calls Tryz.prog 32 #[.string (bstr s)] w' (GavePrd o w')) (hcs : capC (plainC s) ≤ 100000) (hft : ({ t with cavs := t.cavs ++ [plainC s] } : Tok).Fit) (hm : t.cavs.length ≤ 1000000) (A : Option Addr) (c : Nat) (w : World) (hT : Tabs w) (hE : EnvQ w) (hs : Sl w A (c * 5) (t.cavs.flatMap cavV)) :
    Calls Tryz.prog 19 #[.agg (tokV t A c).toArray, .string (bstr s)] w (GaveTok (attO t s o) (errAtO t s o) w) := by
  obtain ⟨Z, hZ⟩ : ∃ Z, Z = tokV zeroK none 0 := ⟨_, rfl⟩
  have hZl : Z.length = 36 := by rw [hZ]; exact length_tokV zeroK_ok none 0
  have hZe := Lib.hid (hZ.trans ztok)
  have hzZ := Lib.hid (show (Tryz.prog.info? 27).map (·.size) = some Z.toArray.size by rw [List.size_toArray, hZl]; exact size_tok)
  have hZ1 := Lib.hid (show Z.toArray.all (·.oneCell') = true by rw [hZ, List.all_toArray, List.all_eq_true]; exact tokV_one _ _ _)
  obtain ⟨X, hX⟩ : ∃ X, X = tokV t A c := ⟨_, rfl⟩
  have hXl : X.length = 36 := by rw [hX]; exact length_tokV ht A c
  have hzX2 := Lib.hid (show (Tryz.prog.info? 27).map (·.size) = some X.toArray.size by rw [List.size_toArray, hXl]; exact size_tok)
  obtain ⟨w1, hw1⟩ : ∃ w1, w1 = (w.alloc (.cells X.toArray 27)).alloc (.cells Z.toArray 27) := ⟨_, rfl⟩
  obtain ⟨r1, r2, hb1⟩ := two_rows19 hw1.symm
  have HW := Lib.hid (hw1.trans (by rw [hZe.out]))
  have hc3 : w1.cell? ⟨w.heap.size, 3, none⟩ = some (.bool t.bound) := by rw [r1.cell, hX]; rfl
  have hadd := Lib.hid (show ∀ w', Tabs w' → Sl w' A (c * 5) (t.cavs.flatMap cavV) → Calls Tryz.prog 14 #[.agg X.toArray, .agg #[.bool false, .string (bstr s), .int .u64 0, .string { data := #[] }, .string { data := #[] }]] w' (GaveTok (addT t (plainC s)) (errAdd t (plainC s)) w') by
    rw [hX]; exact fun w' hT h => jadd_T t ht (plainC s) (by show (0 : Nat) < _; decide) hcs hm hft A c w' hT h)
  have ts := hs.later (Nat.le_refl _) hb1
  have HZ := Lib.hid hZ
  have Q2 := Lib.hid (show w1.heap[w.heap.size + 1]? = some (.cells Z.toArray 27 (0, 0)) from r2)
  have HE := Lib.hid (show errAtO t s o = if t.bound = true then 6 else if o.isSome = true then errAdd t (plainC s) else 2 from rfl)
  have HG := Lib.hid (show attO t s o = if errAtO t s o = 0 then moreT t (plainC s) else zeroK from rfl)
  have HA := Lib.hid (show addT t (plainC s) = if errAdd t (plainC s) = 0 then moreT t (plainC s) else zeroK from rfl)
  rw [← hX]
  have tok1 : True := trivial
  have HTB := Lib.hid hT
  have HEQ := Lib.hid hE
  have hpr := Lib.hid hpr
  clear hw1 hZ hX hs hT hE
  generalize errAtO t s o = er at *
  generalize attO t s o = U at *
  cases hbd : t.bound with
  | true =>
    rw [hbd] at hc3 HE
    have e1 : er = 6 := HE.out.trans (if_pos rfl)
    have e2 : U = zeroK := by rw [HG.out, e1]; rfl
    have E1 := Lib.hid e1
    have E2 := Lib.hid e2
    clear e1 e2 HE HG r1 r2 ts hadd HA hZl hXl
    go_enter Tryz.func19, Tryz.ntmps19
    go_wp2_with (first
      | (have _t := tok1; rw [← HW.out]; clear tok1)
      | (have _t := Q2; refine wpList_store_row rfl 27 (.tmp 4) (.tmp 10) rfl (w.heap.size + 1) Z.toArray rfl (by rw [hZe.out]; rfl) 27 Z.toArray Q2.out hzZ.out rfl hZ1.out ?_; refine Hid.out ?_))
    refine Lib.hid ?_
    generalize hw8 : World.setRow _ _ _ = w8
    obtain ⟨r8, hg8⟩ := row_set (show Row w1 (w.heap.size + 1) 27 Z from Q2.out) hw8
    have hb8 := hb1.grown hg8 hb1.size (fun k h => by cases h; omega)
    have R8 := Lib.hid (show w8.heap[w.heap.size + 1]? = some (.cells Z.toArray 27 (0, 0)) from r8)
    clear hw8 r8 Q2
    go_wp2_with fail
    exact ⟨rfl, _, results_row_tmp rfl _ _ (w.heap.size + 1) 27 Z.toArray (0, 0) _ rfl R8.out Tryz.underlying27 rfl hzZ.out _ rfl, none, 0, by rw [E2.out, E1.out, HZ.out]; rfl, by rw [E2.out]; exact sl_zeroK _, (fun a h => by cases h), hb8⟩
  | false =>
    rw [hbd] at hc3 HE
    have hpa := hpr
    unfold GavePrd at hpa
    generalize hx : o.getD zeroP = x at *
    generalize hok : o.isSome = ok at *
    have R1 := Lib.hid (show w1.heap[w.heap.size]? = some (.cells X.toArray 27 (0, 0)) from r1)
    clear hZl hXl
    go_enter Tryz.func19, Tryz.ntmps19
    go_wp2_with (first
      | (have _t := tok1; rw [← HW.out]; clear tok1)
      | (go_at_call 32; refine (hpa.out _ (HEQ.out.next hb1)).mono ?_; rintro e w2 ⟨A2, c2, rfl, ax, hq⟩; have hlx := length_prdV x ax.ok.net.a A2 c2; have hzP := Lib.hid (show (Tryz.prog.info? 70).map (·.size) = some (prdV x A2 c2).toArray.size by rw [List.size_toArray, hlx]; exact size_prd); have h23 := Lib.hid (show 23 = (prdV x A2 c2).toArray.size by rw [List.size_toArray, hlx]); have hP1 := Lib.hid (prdV_one x A2 c2); clear hlx)
      | (have _t := hzP; refine wpList_store_row rfl 70 (.tmp 6) (.tmp 14) rfl w2.heap.size (prdV x A2 c2).toArray rfl rfl 70 _ (heap_alloc_new w2 _) hzP.out h23.out hP1.out ?_; refine Hid.out ?_))
    refine Lib.hid ?_
    generalize hww : World.setRow _ _ _ = w3
    obtain ⟨x1, hq3⟩ := row_new_set (xs := prdV x A2 c2) hww
    have hq := hq.trans (hq3.mono hq.size)
    have r1 := r1.later hq r1.lt
    have r2 := r2.later hq r2.lt
    have ts := ts.later (Nat.le_refl _) hq
    have hb1 := hb1.trans (hq.mono hb1.size)
    have R1 := Lib.hid (show w3.heap[w.heap.size]? = some (.cells X.toArray 27 (0, 0)) from r1)
    have Q2 := Lib.hid (show w3.heap[w.heap.size + 1]? = some (.cells Z.toArray 27 (0, 0)) from r2)
    generalize w2.heap.size = g2 at *
    clear hww hq hq3 x1 hpa hzP h23 hP1 ax hc3 HW hx
    generalize prdV x A2 c2 = PV at *
    have HE := Lib.hid (HE.out.trans (if_neg (by decide)))
    cases ok with
    | false =>
      have e1 : er = 2 := HE.out.trans (if_neg (by decide))
      have e2 : U = zeroK := by rw [HG.out, e1]; rfl
      have E1 := Lib.hid e1
      have E2 := Lib.hid e2
      clear e1 e2 HE HG r1 r2 ts hadd HA R1
      go_wp2_with (have _t := Q2; refine wpList_store_row rfl 27 (.tmp 4) (.tmp 18) rfl (w.heap.size + 1) Z.toArray rfl (by rw [hZe.out]; rfl) 27 Z.toArray Q2.out hzZ.out rfl hZ1.out ?_; refine Hid.out ?_)
      refine Lib.hid ?_
      generalize hw8 : World.setRow _ _ _ = w8
      obtain ⟨r8, hg8⟩ := row_set (show Row w3 (w.heap.size + 1) 27 Z from Q2.out) hw8
      have hb8 := hb1.grown hg8 hb1.size (fun k h => by cases h; omega)
      have R8 := Lib.hid (show w8.heap[w.heap.size + 1]? = some (.cells Z.toArray 27 (0, 0)) from r8)
      clear hw8 r8 Q2
      go_wp2_with fail
      exact ⟨rfl, _, results_row_tmp rfl _ _ (w.heap.size + 1) 27 Z.toArray (0, 0) _ rfl R8.out Tryz.underlying27 rfl hzZ.out _ rfl, none, 0, by rw [E2.out, E1.out, HZ.out]; rfl, by rw [E2.out]; exact sl_zeroK _, (fun a h => by cases h), hb8⟩
    | true =>
      have e1 : er = errAdd t (plainC s) := HE.out.trans (if_pos rfl)
      have e2 : U = addT t (plainC s) := by rw [HG.out, e1, HA.out]
      have hUo : (addT t (plainC s)).Ok := by
        rw [HA.out]; split
        · exact moreT_ok ht (by show (0 : Nat) < _; decide)
        · exact zeroK_ok
      rw [← e1, ← e2] at hadd
      rw [← e2] at hUo
      clear e1 e2 HE HG HA
      unfold GaveTok at hadd
      have r2L := Lib.hid r2.lt
      go_wp2_with (first
        | (with_reducible refine wpList_load_row rfl 27 (.tmp 2) rfl w.heap.size rfl 27 X.toArray (0, 0) _ R1.out Tryz.underlying27 rfl hzX2.out ?_)
        | (go_at_call 14; refine (hadd.out _ (HTB.out.later hb1 (Nat.le_refl _)) ts).mono ?_; rintro e w4 ⟨B, d, rfl, s4, hap, hb4⟩; have r2 := r2.later hb4 r2.lt; have Q2 := Lib.hid (show w4.heap[w.heap.size + 1]? = some (.cells Z.toArray 27 (0, 0)) from r2); have hb4 := hb1.trans (hb4.mono hb1.size); have hVl := length_tokV hUo B d; have hzV := Lib.hid (show (Tryz.prog.info? 27).map (·.size) = some (tokV U B d).toArray.size by rw [List.size_toArray, hVl]; exact size_tok); have hV1 := Lib.hid (show (tokV U B d).toArray.all (·.oneCell') = true by rw [List.all_toArray, List.all_eq_true]; exact tokV_one _ _ _); have hVZ := Lib.hid (show Z.toArray.size = (tokV U B d).toArray.size by rw [List.size_toArray, List.size_toArray, hVl, HZ.out]; exact length_tokV zeroK_ok none 0); clear hVl)
        | (have _t := hb4; refine wpList_store_row rfl 27 (.tmp 4) (.tmp 23) rfl (w.heap.size + 1) (tokV U B d).toArray rfl rfl 27 Z.toArray Q2.out hzV.out hVZ.out hV1.out ?_; refine Hid.out ?_))
      refine Lib.hid ?_
      generalize hw8 : World.setRow _ _ _ = w8
      obtain ⟨r8, hg8⟩ := row_set (show Row w4 (w.heap.size + 1) 27 Z from Q2.out) hw8
      have hb8 := hb4.grown hg8 hb4.size (fun k h => by cases h; omega)
      have R8 := Lib.hid (show w8.heap[w.heap.size + 1]? = some (.cells (tokV U B d).toArray 27 (0, 0)) from r8)
      have hl3 := r2L.out
      have s8 := s4.apart hg8 (fun _ a ha => by have := hap a ha; omega)
      clear hw8 r8 Q2 hg8 s4
      go_wp2_with fail
      exact ⟨rfl, _, results_row_tmp rfl _ _ (w.heap.size + 1) 27 (tokV U B d).toArray (0, 0) _ rfl R8.out Tryz.underlying27 rfl hzV.out _ rfl, B, d, rfl, s8, (fun a ha => by have := hap a ha; omega), hb8⟩
end Go.Proofs.YtimdhdimhboboaaGreatDoor

/- LAYER 19: chainAlive. -/
namespace Go.Proofs.YtimdhdimhboboaaGreatDoor
set_option maxRecDepth 100000
open Go Go.RowKit

theorem wpList_build1J {P : Program} {w : World} {ops : Array Oper} {rest : List Oper} {o : Oper} {a : Act} {Q : Exit → Act → World → Prop} (hgd : o.guard = none) (ty : TypeId) (k0 : Nat) (x0 : Operand) (ho : o.op = .build ty #[(k0, x0)]) (v0 v : Value) (hx0 : a.eval x0 = v0)
    (hv : (Instr.build ty #[(k0, v0)]).run P w = .ok v w) (h : wpList P ops Q rest (a.put o.dst v) w) : wpList P ops Q (o :: rest) a w := by
  refine wpList_plain hgd fun _ hK => ?_
  unfold Oper.wp execOp
  simp only [ho, Sem.run_bind, Sem.run_pure, Result.andThen_ok, List.map_toArray, List.map_cons, List.map_nil, hx0, hv]
  exact hK _ _ h
def keyA : List UInt8 := 7 :: List.replicate 31 0
theorem build_keyA (w : World) : (Instr.build 23 #[(0, .int .u8 7)]).run Tryz.prog w = .ok (.agg (byts keyA).toArray) w := by go_simp; rfl
/-- The token that chainAlive makes, with these caveats, and this tag. -/
def aT (l : List Cav) (S : List UInt8) : Tok := ⟨1, [109, 101], l, false, S⟩
theorem aT_ok (l : List Cav) (S : List UInt8) (hS : S.length = 32) (hl : ∀ c ∈ l, c.party = 0) : (aT l S).Ok := ⟨by show (1 : Nat) < _; decide, fun c hc => by rw [hl c hc]; decide, hS⟩
theorem att_alive (l : List Cav) (S s : List UInt8) (o : Option Prd) (ho : o.isSome = true) (hck : checkT (moreT (aT l S) (plainC s)) = true) : errAtO (aT l S) s o = 0 ∧ attO (aT l S) s o = aT (l ++ [plainC s]) (nextT S (plainC s)) := by
  have e1 : errAdd (aT l S) (plainC s) = 0 := by unfold errAdd; rw [if_neg (by show ¬ false = true; decide), if_pos hck]
  have e2 : errAtO (aT l S) s o = 0 := by unfold errAtO; rw [if_neg (by show ¬ false = true; decide), if_pos ho, e1]
  exact ⟨e2, by unfold attO; rw [e2]; rfl⟩
theorem parse_a1 (w : World) (hE : EnvQ w) : Calls Tryz.prog 32 #[.string (bstr [111, 112, 32, 114, 101, 97, 100])] w (GavePrd (readP [111, 112] [114, 101, 97, 100]) w) :=
  pparse_by [111, 112, 32, 114, 101, 97, 100] [111, 112] [114, 101, 97, 100] (by decide) _ (fun w' h => pread_if [111, 112] [114, 101, 97, 100] (by decide) (fun h => absurd h (by decide)) (fun h => absurd h (by decide)) (fun h => absurd h (by decide)) w' h) w hE (by decide)
theorem parse_a2 (w : World) (hE : EnvQ w) : Calls Tryz.prog 32 #[.string (bstr [98, 101, 102, 111, 114, 101, 32, 57])] w (GavePrd (readP [98, 101, 102, 111, 114, 101] [57]) w) :=
  pparse_by [98, 101, 102, 111, 114, 101, 32, 57] [98, 101, 102, 111, 114, 101] [57] (by decide) _ (fun w' h => pread_if [98, 101, 102, 111, 114, 101] [57] (by decide) (fun h => absurd h (by decide)) (fun h => absurd h (by decide)) (fun h => absurd h (by decide)) w' h) w hE (by decide)
theorem some_a1 : (readP [111, 112] [114, 101, 97, 100]).isSome = true := by decide
theorem some_a2 : (readP [98, 101, 102, 111, 114, 101] [57]).isSome = true := by decide
theorem fit_alive (l : List Cav) (S : List UInt8) (hl : l.length ≤ 2) (h : ∀ c ∈ l, c.text.length ≤ 10 ∧ c.id = [] ∧ c.vault = []) : (aT l S).Fit :=
  ⟨by show (2 : Nat) ≤ _; decide, by show l.length ≤ _; omega, fun c hc => by obtain ⟨h1, h2, h3⟩ := h c hc; rw [h2, h3]; exact ⟨by omega, by decide, by decide⟩⟩
theorem eq_self19 (x : List UInt8) (hx : x.length = 32) (w : World) : (Op.equalIn 10000 23 (.agg (byts x).toArray) (.agg (byts x).toArray)).run Tryz.prog w = .ok true w := by
  obtain ⟨i8, hi8⟩ : ∃ i, Tryz.prog.info? 5 = some i := ⟨_, rfl⟩
  rw [run_eq_bytes 23 32 i8 Tryz.underlying23 hi8 x x hx hx w, decide_eq_true rfl]
/-- A token's cells, as a row to be stored and read. -/
structure Row36 (X : List Value) : Prop where
  l : X.length = 36
  o : X.toArray.all (·.oneCell') = true
theorem row36 {t : Tok} (h : t.Ok) (A : Option Addr) (c : Nat) : Row36 (tokV t A c) := ⟨length_tokV h A c, by rw [List.all_toArray, List.all_eq_true]; exact tokV_one _ _ _⟩
theorem Row36.z {X : List Value} (h : Row36 X) : (Tryz.prog.info? 27).map (·.size) = some X.toArray.size := by rw [List.size_toArray, h.l]; exact size_tok
theorem Row36.s {X : List Value} (h : Row36 X) : (36 : Nat) = X.toArray.size := by rw [List.size_toArray, h.l]
set_option maxHeartbeats 8000000 in
theorem jalive_T (w : World) (hT : Tabs w) (hE : EnvQ w) : Calls Tryz.prog 6 #[] w fun e w' => e = .returned (.bool true) ∧ Below w.heap.size w w' := by
  obtain ⟨S, hS⟩ : ∃ S, S = startT keyA 1 [109, 101] := ⟨_, rfl⟩
  have hSl : S.length = 32 := by rw [hS]; exact length_startT _ _ _
  obtain ⟨C1, hC1⟩ : ∃ C, C = plainC [111, 112, 32, 114, 101, 97, 100] := ⟨_, rfl⟩
  obtain ⟨C2, hC2⟩ : ∃ C, C = plainC [98, 101, 102, 111, 114, 101, 32, 57] := ⟨_, rfl⟩
  obtain ⟨N1, hN1⟩ : ∃ N, N = nextT S C1 := ⟨_, rfl⟩
  obtain ⟨N2, hN2⟩ : ∃ N, N = nextT N1 C2 := ⟨_, rfl⟩
  have hNl1 : N1.length = 32 := by rw [hN1]; exact length_nextT _ _
  have hNl : N2.length = 32 := by rw [hN2]; exact length_nextT _ _
  have p1 : C1.party = 0 := by rw [hC1]; rfl
  have p2 : C2.party = 0 := by rw [hC2]; rfl
  have o1 : (aT [] S).Ok := aT_ok _ _ hSl (fun c h => by cases h)
  have o2 : (aT [C1] N1).Ok := aT_ok _ _ hNl1 (fun c h => by rw [List.mem_singleton.1 h]; exact p1)
  have o3 : (aT [C1, C2] N2).Ok := aT_ok _ _ hNl (fun c h => by rcases List.mem_cons.1 h with rfl | h; exact p1; rw [List.mem_singleton.1 h]; exact p2)
  have hmi := Lib.hid (show ∀ w', Tabs w' → Calls Tryz.prog 16 #[.agg (byts keyA).toArray, .int .u64 1, .string { data := #[109, 101] }] w' fun e w'' => ∃ (A : Option Addr) (c : Nat), e = .returned (.tuple #[.agg (tokV (aT [] S) A c).toArray, .int .i64 0]) ∧ Sl w'' A (c * 5) ((aT [] S).cavs.flatMap cavV) ∧ Below w'.heap.size w' w'' by
    intro w' h
    refine (jmint_T keyA rfl 1 (by decide) [109, 101] (by decide) w' h).mono ?_
    rintro e w'' ⟨A, c, h1, h2, -, h3⟩
    have em : mintT keyA 1 [109, 101] = aT [] S := by rw [hS]; rfl
    rw [em] at h1 h2
    exact ⟨A, c, h1, h2, h3⟩)
  have q1 := att_alive [] S [111, 112, 32, 114, 101, 97, 100] (readP [111, 112] [114, 101, 97, 100]) some_a1 (by rfl)
  have q2 := att_alive [C1] N1 [98, 101, 102, 111, 114, 101, 32, 57] (readP [98, 101, 102, 111, 114, 101] [57]) some_a2 (by rw [hC1]; rfl)
  rw [← hC1, ← hN1] at q1
  rw [← hC2, ← hN2] at q2
  have hm1 := Lib.hid (show ∀ A c w', Tabs w' → EnvQ w' → Sl w' A (c * 5) ((aT [] S).cavs.flatMap cavV) → Calls Tryz.prog 19 #[.agg (tokV (aT [] S) A c).toArray, .string { data := #[111, 112, 32, 114, 101, 97, 100] }] w' fun e w'' => ∃ (A : Option Addr) (c : Nat), e = .returned (.tuple #[.agg (tokV (aT [C1] N1) A c).toArray, .int .i64 0]) ∧ Sl w'' A (c * 5) ((aT [C1] N1).cavs.flatMap cavV) ∧ Below w'.heap.size w' w'' by
    intro A c w' h h' hs
    refine (jatt_T (aT [] S) o1 [111, 112, 32, 114, 101, 97, 100] _ parse_a1 (by decide) (fit_alive _ S (by show (1 : Nat) ≤ 2; decide) (fun c h => by rw [List.mem_singleton.1 h]; exact ⟨by decide, rfl, rfl⟩)) (by show (0 : Nat) ≤ 1000000; decide) A c w' h h' hs).mono ?_
    rintro e w'' ⟨A, c, h1, h2, -, h3⟩
    rw [q1.1, q1.2] at h1
    rw [q1.2] at h2
    exact ⟨A, c, h1, h2, h3⟩)
  have hm2 := Lib.hid (show ∀ A c w', Tabs w' → EnvQ w' → Sl w' A (c * 5) ((aT [C1] N1).cavs.flatMap cavV) → Calls Tryz.prog 19 #[.agg (tokV (aT [C1] N1) A c).toArray, .string { data := #[98, 101, 102, 111, 114, 101, 32, 57] }] w' fun e w'' => ∃ (A : Option Addr) (c : Nat), e = .returned (.tuple #[.agg (tokV (aT [C1, C2] N2) A c).toArray, .int .i64 0]) ∧ Sl w'' A (c * 5) ((aT [C1, C2] N2).cavs.flatMap cavV) ∧ Below w'.heap.size w' w'' by
    intro A c w' h h' hs
    refine (jatt_T (aT [C1] N1) o2 [98, 101, 102, 111, 114, 101, 32, 57] _ parse_a2 (by decide) (fit_alive _ N1 (by show (2 : Nat) ≤ 2; decide) (fun c h => by rcases List.mem_cons.1 h with rfl | h; exact ⟨by rw [hC1]; decide, by rw [hC1]; rfl, by rw [hC1]; rfl⟩; rw [List.mem_singleton.1 h]; exact ⟨by decide, rfl, rfl⟩)) (by show (1 : Nat) ≤ _; decide) A c w' h h' hs).mono ?_
    rintro e w'' ⟨A, c, h1, h2, -, h3⟩
    rw [q2.1, q2.2] at h1
    rw [q2.2] at h2
    exact ⟨A, c, h1, h2, h3⟩)
  have htg := Lib.hid (show ∀ A c w', Tabs w' → Sl w' A (c * 5) ((aT [C1, C2] N2).cavs.flatMap cavV) → Calls Tryz.prog 8 #[.agg (byts keyA).toArray, .agg (tokV (aT [C1, C2] N2) A c).toArray] w' fun e w'' => ∃ B d, e = .returned (.slice B 3 d) ∧ Sl w'' B (d * 32) (tagsV [S, N1, N2]) ∧ Below w'.heap.size w' w'' by
    intro A c w' h hs
    have hc : ∀ x ∈ [C1, C2], capC x ≤ 100000 := fun x hx => by rcases List.mem_cons.1 hx with rfl | hx; rw [hC1]; decide; rw [List.mem_singleton.1 hx, hC2]; decide
    have ht := jtags_T keyA rfl (aT [C1, C2] N2) o3 (by show (2 : Nat) ≤ _; decide) (by show (2 : Nat) ≤ _; decide) hc A c w' h hs
    have e : tagsT keyA (aT [C1, C2] N2) = [S, N1, N2] := by rw [hN2, hN1, hS]; rfl
    rw [e] at ht
    exact ht)
  have hkz := Lib.hid (show (Tryz.prog.info? 23).map (·.size) = some (byts keyA).toArray.size by rw [List.size_toArray, tag_fit keyA rfl]; exact size_tag)
  have hk32 := Lib.hid (show (32 : Nat) = (byts keyA).toArray.size by rw [List.size_toArray, tag_fit keyA rfl])
  have hk1 := Lib.hid (arr_one keyA)
  have hbk := Lib.hid build_keyA
  have HT := Lib.hid hT
  have HE := Lib.hid hE
  clear hS hC1 hC2 hN1 hN2 p1 p2 q1 q2 hT hE
  generalize keyA = K at *
  go_enter Tryz.func6, Tryz.ntmps6
  go_wp2_with (first
    | (refine wpList_build1J rfl 23 0 _ rfl (.int .u8 7) (.agg (byts K).toArray) rfl (hbk.out _) ?_)
    | (with_reducible refine wpList_store_row rfl 23 (.tmp 1) (.tmp 9) rfl w.heap.size (byts K).toArray rfl rfl 23 _ (heap_alloc_new w _) hkz.out (Eq.trans (by kernel_rfl) hk32.out) hk1.out ?_; refine Hid.out ?_))
  refine Lib.hid ?_
  generalize hww : World.setRow _ _ _ = w1
  obtain ⟨r1, hb1⟩ := row_new_set (xs := byts K) hww
  have R1 := Lib.hid (show w1.heap[w.heap.size]? = some (.cells (byts K).toArray 23 (0, 0)) from r1)
  clear hww hbk hk1 hk32
  go_wp2_with (first
    | (with_reducible refine wpList_load_row rfl 23 (.tmp 1) rfl w.heap.size rfl 23 (byts K).toArray (0, 0) _ R1.out Tryz.underlying23 rfl hkz.out ?_)
    | (go_at_call 16; refine (hmi.out _ (HT.out.later hb1 (Nat.le_refl _))).mono ?_; rintro e w2 ⟨A1, c1, rfl, s2, hq⟩; have r1 := r1.later hq r1.lt; have hb2 := hb1.trans (hq.mono hb1.size); have x2 := Lib.hid (row36 o1 A1 c1); clear hq)
    | (have _t := x2; with_reducible refine wpList_store_row rfl 27 (.tmp 2) (.tmp 13) rfl w2.heap.size (tokV (aT [] S) A1 c1).toArray rfl rfl 27 _ (heap_alloc_new w2 _) x2.out.z (Eq.trans (by kernel_rfl) x2.out.s) x2.out.o ?_; refine Hid.out ?_))
  refine Lib.hid ?_
  generalize hww : World.setRow _ _ _ = w3
  obtain ⟨r2, hq⟩ := row_new_set (xs := tokV (aT [] S) A1 c1) hww
  have r1 := r1.later hq r1.lt
  have s2 := s2.later (Nat.le_refl _) hq
  have hb3 := hb2.trans (hq.mono hb2.size)
  have R2 := Lib.hid (show w3.heap[w2.heap.size]? = some (.cells (tokV (aT [] S) A1 c1).toArray 27 (0, 0)) from r2)
  generalize w2.heap.size = g2 at *
  clear hww hq hmi hb1 hb2 R1
  go_wp2_with (first
    | (with_reducible refine wpList_load_row rfl 27 (.tmp 2) rfl g2 rfl 27 (tokV (aT [] S) A1 c1).toArray (0, 0) _ R2.out Tryz.underlying27 rfl x2.out.z ?_)
    | (go_at_call 19; refine (hm1.out _ _ _ (HT.out.later hb3 (Nat.le_refl _)) (HE.out.next hb3) s2).mono ?_; rintro e w4 ⟨A3, c3, rfl, s4, hq⟩; have r1 := r1.later hq r1.lt; have r2 := r2.later hq r2.lt; have hb4 := hb3.trans (hq.mono hb3.size); have x4 := Lib.hid (row36 o2 A3 c3); clear hq)
    | (have _t := x4; with_reducible refine wpList_store_row rfl 27 (.tmp 4) (.tmp 18) rfl w4.heap.size (tokV (aT [C1] N1) A3 c3).toArray rfl rfl 27 _ (heap_alloc_new w4 _) x4.out.z (Eq.trans (by kernel_rfl) x4.out.s) x4.out.o ?_; refine Hid.out ?_))
  refine Lib.hid ?_
  generalize hww : World.setRow _ _ _ = w5
  obtain ⟨r4, hq⟩ := row_new_set (xs := tokV (aT [C1] N1) A3 c3) hww
  have r1 := r1.later hq r1.lt
  have r2 := r2.later hq r2.lt
  have s4 := s4.later (Nat.le_refl _) hq
  have hb5 := hb4.trans (hq.mono hb4.size)
  have R4 := Lib.hid (show w5.heap[w4.heap.size]? = some (.cells (tokV (aT [C1] N1) A3 c3).toArray 27 (0, 0)) from r4)
  generalize w4.heap.size = g4 at *
  clear hww hq hm1 hb3 hb4 R2 s2
  go_wp2_with (first
    | (with_reducible refine wpList_load_row rfl 27 (.tmp 4) rfl g4 rfl 27 (tokV (aT [C1] N1) A3 c3).toArray (0, 0) _ R4.out Tryz.underlying27 rfl x4.out.z ?_)
    | (go_at_call 19; refine (hm2.out _ _ _ (HT.out.later hb5 (Nat.le_refl _)) (HE.out.next hb5) s4).mono ?_; rintro e w6 ⟨A5, c5, rfl, s6, hq⟩; have r1 := r1.later hq r1.lt; have r2 := r2.later hq r2.lt; have hb6 := hb5.trans (hq.mono hb5.size); have x6 := Lib.hid (row36 o3 A5 c5); clear hq)
    | (have _t := x6; with_reducible refine wpList_store_row rfl 27 (.tmp 6) (.tmp 23) rfl w6.heap.size (tokV (aT [C1, C2] N2) A5 c5).toArray rfl rfl 27 _ (heap_alloc_new w6 _) x6.out.z (Eq.trans (by kernel_rfl) x6.out.s) x6.out.o ?_; refine Hid.out ?_))
  refine Lib.hid ?_
  generalize hww : World.setRow _ _ _ = w7
  obtain ⟨r6, hq⟩ := row_new_set (xs := tokV (aT [C1, C2] N2) A5 c5) hww
  have r1 := r1.later hq r1.lt
  have r2 := r2.later hq r2.lt
  have s6 := s6.later (Nat.le_refl _) hq
  have hb7 := hb6.trans (hq.mono hb6.size)
  have R6 := Lib.hid (show w7.heap[w6.heap.size]? = some (.cells (tokV (aT [C1, C2] N2) A5 c5).toArray 27 (0, 0)) from r6)
  have R1 := Lib.hid (show w7.heap[w.heap.size]? = some (.cells (byts K).toArray 23 (0, 0)) from r1)
  generalize w6.heap.size = g6 at *
  clear hww hq hm2 hb5 hb6 R4 s4 r4 x4
  go_wp2_with (first
    | (with_reducible refine wpList_load_row rfl 23 (.tmp 1) rfl w.heap.size rfl 23 (byts K).toArray (0, 0) _ R1.out Tryz.underlying23 rfl hkz.out ?_)
    | (with_reducible refine wpList_load_row rfl 27 (.tmp 6) rfl g6 rfl 27 (tokV (aT [C1, C2] N2) A5 c5).toArray (0, 0) _ R6.out Tryz.underlying27 rfl x6.out.z ?_)
    | (go_at_call 8; refine (htg.out _ _ _ (HT.out.later hb7 (Nat.le_refl _)) s6).mono ?_; rintro e w8 ⟨B, d, rfl, s8, hq⟩; have r2 := r2.later hq r2.lt; have r6 := r6.later hq r6.lt; have hb8 := hb7.trans (hq.mono hb7.size); clear hq; refine Hid.out ?_))
  refine Lib.hid ?_
  have hfl : ∀ u ∈ [S, N1, N2], (byts u).length = 32 := fun u hu => by
    simp only [List.mem_cons, List.not_mem_nil, or_false] at hu
    rcases hu with rfl | rfl | rfl
    · exact tag_fit _ hSl
    · exact tag_fit _ hNl1
    · exact tag_fit _ hNl
  obtain ⟨b, o, rfl, hb0, hr0⟩ := s8.rd.get (i := 0) (by rw [length_tagsJ _ hfl]; show (0 : Nat) < 3 * 32; decide)
  have hix0 := index_tagJ (some ⟨b, o, none⟩) b o 3 d 0 rfl (by decide)
  have hix2 := index_tagJ (some ⟨b, o, none⟩) b o 3 d 2 rfl (by decide)
  have HR0 := Lib.hid (fun (W : World) (h : Sl W (some ⟨b, o, none⟩) (d * 32) (tagsV [S, N1, N2])) => h.thing (k := 32) hfl 0 S rfl)
  have HR2 := Lib.hid (fun (W : World) (h : Sl W (some ⟨b, o, none⟩) (d * 32) (tagsV [S, N1, N2])) => h.thing (k := 32) hfl 2 N2 rfl)
  have hSz := Lib.hid (show (Tryz.prog.info? 23).map (·.size) = some (byts S).length by rw [tag_fit _ hSl]; exact size_tag)
  have hNz := Lib.hid (show (Tryz.prog.info? 23).map (·.size) = some (byts N2).length by rw [tag_fit _ hNl]; exact size_tag)
  have hqS := Lib.hid (eq_self19 S hSl)
  have hqN := Lib.hid (eq_self19 N2 hNl)
  clear hb0 hr0 hfl R1 R6 r1 s6 htg hb7 hkz HT HE x2 x6 o1 o2 o3 hSl hNl hNl1
  go_upto_region 6 with fail
  refine wp_region_noPanic ?_
  refine wp_region_held_drew (S := fun w' => Below w8.heap.size w8 w') (by kernel_rfl) ((Below.refl _ _).drew) (fun hHeld => ?_)
  have hB : Below w8.heap.size w8 w8.drew := (Below.refl _ _).drew
  refine rt 0 28 hHeld ?_
  refine rt 1 29 hHeld ?_
  refine rt 2 30 hHeld ?_
  refine rt 3 31 hHeld ?_
  refine rt 4 32 hHeld ?_
  refine rt 5 33 hHeld ?_
  refine rt 6 34 hHeld ?_
  refine rt 7 35 hHeld ?_
  refine rt 8 36 hHeld ?_
  refine rt 9 37 hHeld ?_
  refine rt 10 38 hHeld ?_
  refine rt 11 39 hHeld ?_
  refine rt 12 40 hHeld ?_
  refine rt 13 41 hHeld ?_
  refine rt 14 42 hHeld ?_
  refine rt 15 43 hHeld ?_
  refine rt 16 44 hHeld ?_
  refine rt 17 45 hHeld ?_ (hy := by intro w hS; have h1 := hix0; go_simp; try with_reducible rfl)
  refine rt 18 46 hHeld ?_ (hy := by intro w hS; exact run_load_op 23 (.tmp 45) rfl b (o + 0 * 32) rfl (byts S) _ (HR0.out _ (s8.later (Nat.le_refl _) hS)) Tryz.underlying23 rfl hSz.out)
  refine rt 19 47 hHeld ?_
  refine rt 20 48 hHeld ?_ (hy := by intro w hS; exact run_load_op 23 (.tmp 47) rfl g2 4 rfl (byts S) _ (tok_tag_range (t := aT [] S) (r2.later hS r2.lt)) Tryz.underlying23 rfl hSz.out)
  refine rt 21 49 hHeld ?_ (hy := by intro w hS; have h1 := hqS.out w; go_simp; try with_reducible rfl)
  refine rt 22 50 hHeld ?_
  refine rt 23 51 hHeld ?_
  refine rt 24 52 hHeld ?_
  refine rt 25 53 hHeld ?_ (hy := by intro w hS; have h1 := hix2; go_simp; try with_reducible rfl)
  refine rt 26 54 hHeld ?_ (hy := by intro w hS; exact run_load_op 23 (.tmp 53) rfl b (o + 2 * 32) rfl (byts N2) _ (HR2.out _ (s8.later (Nat.le_refl _) hS)) Tryz.underlying23 rfl hNz.out)
  refine rt 27 55 hHeld ?_
  refine rt 28 56 hHeld ?_ (hy := by intro w hS; exact run_load_op 23 (.tmp 55) rfl g6 4 rfl (byts N2) _ (tok_tag_range (t := aT [C1, C2] N2) (r6.later hS r6.lt)) Tryz.underlying23 rfl hNz.out)
  refine rt 29 57 hHeld ?_ (hy := by intro w hS; have h1 := hqN.out w; go_simp; try with_reducible rfl)
  refine rt 30 58 hHeld ?_
  refine rt 31 0 hHeld ?_
  refine wpAnyH_done (by kernel_rfl) ?_ _
  refine NoPanic.normal ?_
  have hbz := hb8.trans (hB.mono hb8.size)
  clear hB hHeld
  go_wp2_with fail
  go_ret
  exact ⟨rfl, hbz⟩
end Go.Proofs.YtimdhdimhboboaaGreatDoor

/- LAYER 19: package chain by the names that the laws' walks use. -/
namespace Go.Proofs.YtimdhdimhboboaaGreatDoor
set_option maxRecDepth 100000
open Go Go.RowKit

/-- What package chain's calls find in memory: package word's tables, and what package caveat's find. -/
structure EnvJ (w : World) : Prop where
  tabs : Tabs w
  cav : EnvQ w
theorem EnvJ.next {w w' : World} (h : EnvJ w) (hb : Below w.heap.size w w') : EnvJ w' := ⟨h.tabs.later hb (Nat.le_refl _), h.cav.next hb⟩
theorem mem_cap19 (l : List Cav) : ∀ c ∈ l, capC c ≤ (l.map capC).sum := by
  induction l with
  | nil => intro c h; cases h
  | cons a l ih =>
    intro c h
    rw [List.map_cons, List.sum_cons]
    rcases List.mem_cons.1 h with rfl | h
    · omega
    · have := ih c h; omega
theorem cap_id19 {t : Tok} (h : capT t ≤ 10000) : t.id.length ≤ 100000000 := by unfold capT at h; omega
theorem cap_many19 {t : Tok} (h : capT t ≤ 10000) : t.cavs.length ≤ 1000000 := by
  have h1 := capT_len t.cavs
  unfold capT at h; omega
theorem cap_each19 {t : Tok} (h : capT t ≤ 10000) : ∀ c ∈ t.cavs, capC c ≤ 100000 := fun c hc => by
  have h1 := mem_cap19 t.cavs c hc
  unfold capT at h; omega
theorem fit_more19 {t : Tok} (h : capT t ≤ 10000) {cv : Cav} (hc : capC cv ≤ 10000) : ({ t with cavs := t.cavs ++ [cv] } : Tok).Fit := by
  have h1 := cap_id19 h
  have h2 := cap_many19 h
  refine ⟨by show t.id.length ≤ _; omega, by show (t.cavs ++ [cv]).length ≤ _; rw [List.length_append]; show t.cavs.length + 1 ≤ _; omega, fun d hd => ?_⟩
  have h3 : capC d ≤ 100000 := by
    rcases List.mem_append.1 hd with hd | hd
    · exact cap_each19 h d hd
    · rw [List.mem_singleton.1 hd]; omega
  unfold capC at h3
  exact ⟨by omega, by omega, by omega⟩
theorem jalive_any (w : World) (hE : EnvJ w) : Calls Tryz.prog 6 #[] w fun e w' => e = .returned (.bool true) ∧ Below w.heap.size w w' := jalive_T w hE.tabs hE.cav
theorem jstart_any (key : List UInt8) (hk : key.length = 32) (n : Nat) (hn : n < 18446744073709551616) (id : List UInt8) (hi : id.length ≤ 100000) (w : World) (hE : EnvJ w) :
    Calls Tryz.prog 11 #[.agg (byts key).toArray, .int .u64 (n : Int), .string (bstr id)] w fun e w' => e = .returned (.agg (byts (startT key n id)).toArray) ∧ Below w.heap.size w w' := jstart_T key hk n hn id (by omega) w hE.tabs
theorem jnext_any (key : List UInt8) (hk : key.length = 32) (c : Cav) (hp : c.party < 18446744073709551616) (hc : capC c ≤ 10000) (w : World) (hE : EnvJ w) :
    Calls Tryz.prog 12 #[.agg (byts key).toArray, .agg (cavV c).toArray] w fun e w' => e = .returned (.agg (byts (nextT key c)).toArray) ∧ Below w.heap.size w w' := jnext_T key hk c hp (by omega) w hE.tabs
theorem jtags_any (key : List UInt8) (hk : key.length = 32) (t : Tok) (ht : t.Ok) (hc : capT t ≤ 10000) (A : Option Addr) (c : Nat) (w : World) (hE : EnvJ w) (hs : Sl w A (c * 5) (t.cavs.flatMap cavV)) :
    Calls Tryz.prog 8 #[.agg (byts key).toArray, .agg (tokV t A c).toArray] w fun e w' => ∃ B d, e = .returned (.slice B (t.cavs.length + 1) d) ∧ Sl w' B (d * 32) ((tagsT key t).flatMap byts) ∧ Below w.heap.size w w' :=
  jtags_T key hk t ht (cap_id19 hc) (cap_many19 hc) (cap_each19 hc) A c w hE.tabs hs
theorem jend_any (key : List UInt8) (hk : key.length = 32) (t : Tok) (ht : t.Ok) (hc : capT t ≤ 10000) (A : Option Addr) (c : Nat) (w : World) (hE : EnvJ w) (hs : Sl w A (c * 5) (t.cavs.flatMap cavV)) :
    Calls Tryz.prog 10 #[.agg (byts key).toArray, .agg (tokV t A c).toArray] w fun e w' => e = .returned (.agg (byts (endT key t)).toArray) ∧ Below w.heap.size w w' :=
  jend_T key hk t ht (cap_id19 hc) (cap_many19 hc) (cap_each19 hc) A c w hE.tabs hs
theorem jmint_any (key : List UInt8) (hk : key.length = 32) (n : Nat) (hn : n < 18446744073709551616) (id : List UInt8) (hi : id.length ≤ 100000) (w : World) (hE : EnvJ w) :
    Calls Tryz.prog 16 #[.agg (byts key).toArray, .int .u64 (n : Int), .string (bstr id)] w (GaveTok (mintT key n id) (errMint id) w) := jmint_T key hk n hn id (by omega) w hE.tabs
theorem jadd_any (t : Tok) (ht : t.Ok) (hc : capT t ≤ 10000) (cv : Cav) (hp : cv.party < 18446744073709551616) (hcv : capC cv ≤ 10000) (A : Option Addr) (c : Nat) (w : World) (hE : EnvJ w) (hs : Sl w A (c * 5) (t.cavs.flatMap cavV)) :
    Calls Tryz.prog 14 #[.agg (tokV t A c).toArray, .agg (cavV cv).toArray] w (GaveTok (addT t cv) (errAdd t cv) w) :=
  jadd_T t ht cv hp (by omega) (cap_many19 hc) (fit_more19 hc hcv) A c w hE.tabs hs
end Go.Proofs.YtimdhdimhboboaaGreatDoor

/- LAYER 19's cards (as layer 18's): what the listed variables hold; a world for the witness. -/
namespace Go.Proofs.YtimdhdimhboboaaGreatDoor
open Go Go.ChangeShapes Go.WideShapes Go.ChangeAt Go.RowKit
set_option maxRecDepth 100000

theorem shape_most {W : World} (h : W.ShapedOpen Tryz.prog) : ∃ m, W.cell? ⟨3, 0, none⟩ = some (.int .i64 m) :=
  Go.Proofs.cell_of_shapedOpen_int (zero := #[.int .i64 0]) (t := 3) h (of_decide_eq_true (by kernel_rfl)) (by kernel_rfl) rfl (by kernel_rfl) (by kernel_rfl) Tryz.underlying3
theorem g64 : Tryz.prog.globalNamed "math/bits.deBruijn64tab" = some 7 := by kernel_rfl
theorem gSyn : Tryz.prog.globalNamed "strconv.ErrSyntax" = some 4 := by kernel_rfl
theorem gRng : Tryz.prog.globalNamed "strconv.ErrRange" = some 5 := by kernel_rfl
def bruijn64 : List Int := [0, 1, 56, 2, 57, 49, 28, 3, 61, 58, 42, 50, 38, 29, 17, 4, 62, 47, 59, 36, 45, 43, 51, 22, 53, 39, 33, 30, 24, 18, 12, 5, 63, 55, 48, 27, 60, 41, 37, 16, 46, 35, 44, 21, 52, 32, 23, 11, 54, 26, 40, 15, 34, 20, 31, 10, 25, 14, 19, 9, 13, 8, 7, 6]
theorem bruijn_at : ∀ j, j < 64 → bruijn64.getD j 0 = ((Lib.deBruijn64tab.getD j 0 : Nat) : Int) := by
  have h : ∀ j : Fin 64, bruijn64.getD j.1 0 = ((Lib.deBruijn64tab.getD j.1 0 : Nat) : Int) := by decide +kernel
  intro j hj
  exact h ⟨j, hj⟩
theorem star_es : "*" ++ "errors.errorString" = "*errors.errorString" := by decide
theorem type_string_ptr : ∀ u, Tryz.prog.typeName? 3 u = some "*errors.errorString" → u = 266 := fun u h =>
  typeName_ptr_named (nm := "errors.errorString") (by rw [star_es]; kernel_rfl) (by kernel_rfl) (by decide) u (by rw [star_es]; exact h)
theorem env_c {W : World} (t64 : Lib.TabIs Tryz.prog W "math/bits.deBruijn64tab" .u8 bruijn64) (tPow : Lib.TabIs Tryz.prog W "internal/strconv.uint64pow10" .u64 Lib.pow10Tab) : EnvC W :=
  ⟨tPow, fun j hj => by rw [t64.cell g64 j hj, bruijn_at j hj]⟩
/-- What the listed variables hold, as far as package chain comes to them. -/
theorem env_of {W : World} (h : laidMet Tryz.prog Rows.chainTellsRow.laid W) (hs : W.ShapedOpen Tryz.prog) : EnvJ W := by
  have h1 := laidMet.tail h
  have h2 := laidMet.tail h1
  have h3 := laidMet.tail h2
  have h4 := laidMet.tail h3
  have h6 := laidMet.tail (laidMet.tail h4)
  have h7 := laidMet.tail h6
  have t64 : Lib.TabIs Tryz.prog W "math/bits.deBruijn64tab" .u8 bruijn64 := Lib.tabIs_of_head (zs := bruijn64) g64 (t := 130) (by kernel_rfl) Tryz.underlying130 Tryz.underlying5 (by kernel_rfl) (by kernel_rfl) h1
  have tCu : Lib.TabIs Tryz.prog W "chitty/word.cubeRoots" .u32 cubeT := Lib.tabIs_of_head (zs := cubeT) gCube (t := 201) (by kernel_rfl) Tryz.underlying201 Tryz.underlying76 (by kernel_rfl) (by kernel_rfl) h2
  have tSq : Lib.TabIs Tryz.prog W "chitty/word.squareRoots" .u32 squareT := Lib.tabIs_of_head (zs := squareT) gSquare (t := 172) (by kernel_rfl) Tryz.underlying172 Tryz.underlying76 (by kernel_rfl) (by kernel_rfl) h3
  have tPow : Lib.TabIs Tryz.prog W "internal/strconv.uint64pow10" .u64 Lib.pow10Tab := Lib.tabIs_of_head (zs := Lib.pow10Tab) gPow (t := 247) (by kernel_rfl) Tryz.underlying247 Tryz.underlying24 (by kernel_rfl) (by kernel_rfl) h4
  obtain ⟨aR, sR, hR, -⟩ := laid_sentinel h6 gRng (by kernel_rfl) Tryz.underlying146 type_string_ptr Tryz.underlying266 Tryz.underlying268 rfl rfl Tryz.underlying9 (by kernel_rfl) (by kernel_rfl)
  obtain ⟨aS, sS, hS, -⟩ := laid_sentinel h7 gSyn (by kernel_rfl) Tryz.underlying146 type_string_ptr Tryz.underlying266 Tryz.underlying268 rfl rfl Tryz.underlying9 (by kernel_rfl) (by kernel_rfl)
  exact ⟨⟨⟨fun i hi => tCu.cell gCube i hi⟩, ⟨fun i hi => tSq.cell gSquare i hi⟩⟩, show EnvQ W from ⟨env_c t64 tPow, shape_most hs, ⟨_, by simpa using World.var?_cell gSyn hS 0, .inr ⟨_, _, rfl⟩⟩, ⟨_, by simpa using World.var?_cell gRng hR 0, .inr ⟨_, _, rfl⟩⟩⟩⟩
/-! One start that fits: the library's tables and sentinels as their initialisers lay them. -/
def setCells12 (cs : List Value) : Obj → Obj
  | .cells _ t frozen => .cells cs.toArray t frozen
  | o => o
def bruijn32 : List Int := [0, 1, 28, 2, 29, 14, 24, 3, 30, 22, 20, 15, 25, 17, 4, 8, 31, 27, 13, 23, 21, 19, 16, 7, 26, 12, 18, 6, 11, 5, 10, 9]
def accept32 : List Int := [128, 191, 160, 191, 128, 159, 144, 191, 128, 143] ++ List.replicate 22 0
def synS : ByteArray := { data := #[105, 110, 118, 97, 108, 105, 100, 32, 115, 121, 110, 116, 97, 120] }
def rngS : ByteArray := { data := #[118, 97, 108, 117, 101, 32, 111, 117, 116, 32, 111, 102, 32, 114, 97, 110, 103, 101] }
/-- So many blocks has the settled world. -/
noncomputable def low12 : Nat := (World.holding Tryz.prog default ⟨#[], #[], []⟩).heap.size
noncomputable def libWorld (os : Os) : World :=
  let w0 := World.holding Tryz.prog os ⟨#[.cells #[.string rngS] 268, .cells #[.string synS] 268], #[], []⟩
  { w0 with heap := ((((((((w0.heap.modify 2 (setCells12 (cubeT.map (Value.int .u32)))).modify 1 (setCells12 (squareT.map (Value.int .u32)))).modify 10 (setCells12 (bruijn32.map (Value.int .u8)))).modify 7 (setCells12 (bruijn64.map (Value.int .u8)))).modify 6 (setCells12 (Lib.pow10Tab.map (Value.int .u64)))).modify
      9 (setCells12 (accept32.map (Value.int .u8)))).modify 8 (setCells12 (Go.Pinned.utf8FirstZ.map fun n : Nat => Value.int .u8 (n : Int)))).modify
      5 (setCells12 [.iface 266 (.pointer (some ⟨low12, 0, none⟩))])).modify 4 (setCells12 [.iface 266 (.pointer (some ⟨low12 + 1, 0, none⟩))]) }
theorem lib_met (os : Os) (args : Array Value) : laidMet Tryz.prog Rows.chainTellsRow.laid ((libWorld os).forCall (fun _ _ => 0) ⟨#[], args, []⟩).memory :=
  laidMet_of_run' 8 (by kernel_rfl) (by kernel_rfl)
end Go.Proofs.YtimdhdimhboboaaGreatDoor

/- AN ARGUMENT THAT IS A TOKEN (a number, a string, a slice of caveats, a truth value, 32 bytes), opened, its strings' sizes out of the row's reach. -/
namespace Go.Proofs.YtimdhdimhboboaaGreatDoor
set_option maxRecDepth 100000
open Go.ChangeShapes Go.WideShapes Go.ChangeAt Go.RowKit

instance : Inhabited Cav := ⟨⟨false, [], 0, [], []⟩⟩
theorem cells_cav : Tryz.prog.cellsOf 29 = 5 := by kernel_rfl
theorem cells_tok : Tryz.prog.cellsOf 27 = 36 := by kernel_rfl
theorem cells_tag : Tryz.prog.cellsOf 23 = 32 := by kernel_rfl
theorem cells_u8 : Tryz.prog.cellsOf 5 = 1 := by kernel_rfl
theorem cells_u64 : Tryz.prog.cellsOf 24 = 1 := by kernel_rfl
theorem cells_bool : Tryz.prog.cellsOf 4 = 1 := by kernel_rfl
theorem cells_cavs : Tryz.prog.cellsOf 25 = 1 := by kernel_rfl
section
variable {H : Type} {enc : TypeId × Value → H} {W : World} {held : Bool} {b1 : Nat}
theorem weights_each_all {P : Program} {e : TypeId} {ds : List (DataW H)} {d : DataW H} (h : d ∈ ds) : ∀ n ∈ d.weights P e, n ∈ DataW.weightsAll P e ds := by
  induction ds with
  | nil => cases h
  | cons q ds ih =>
    intro n hn
    show n ∈ DataW.weights P e q ++ DataW.weightsAll P e ds
    rcases List.mem_cons.1 h with rfl | h
    · exact List.mem_append_left _ hn
    · exact List.mem_append_right _ (ih h n hn)
theorem len5 {α : Type} (l : List α) (h : l.length = 5) : ∃ a b c d e, l = [a, b, c, d, e] := by
  match l, h with
  | [a, b, c, d, e], _ => exact ⟨a, b, c, d, e, rfl⟩
/-- Five cells that are a caveat. -/
theorem open_cav {n : Nat} {cs : List Value} {x : DataW H × List MemPlace} (h : DataW.trod enc Tryz.prog W b1 (fun _ => true) held n 29 cs = some x) :
    ∃ cv : Cav, cs = cavV cv ∧ cv.party < 18446744073709551616 ∧ cv.text.length ∈ x.1.weights Tryz.prog 29 ∧ cv.id.length ∈ x.1.weights Tryz.prog 29 ∧ cv.vault.length ∈ x.1.weights Tryz.prog 29 := by
  obtain ⟨xs, m, _, rfl, hcl, hxl, hf⟩ := DataW.trod_struct Tryz.underlying29 h
  rw [cells_cav] at hcl
  obtain ⟨v0, v1, v2, v3, v4, rfl⟩ := len5 cs hcl
  obtain ⟨y0, y1, y2, y3, y4, rfl⟩ := len5 xs hxl
  have g0 : DataW.trod enc Tryz.prog W b1 (fun _ => true) held m 4 (([v0, v1, v2, v3, v4].drop 0).take (Tryz.prog.cellsOf 4)) = some y0 := hf 0 _ rfl
  rw [cells_bool] at g0
  have g1 : DataW.trod enc Tryz.prog W b1 (fun _ => true) held m 9 (([v0, v1, v2, v3, v4].drop 1).take (Tryz.prog.cellsOf 9)) = some y1 := hf 1 _ rfl
  rw [cells_str] at g1
  have g2 : DataW.trod enc Tryz.prog W b1 (fun _ => true) held m 24 (([v0, v1, v2, v3, v4].drop 2).take (Tryz.prog.cellsOf 24)) = some y2 := hf 2 _ rfl
  rw [cells_u64] at g2
  have g3 : DataW.trod enc Tryz.prog W b1 (fun _ => true) held m 9 (([v0, v1, v2, v3, v4].drop 3).take (Tryz.prog.cellsOf 9)) = some y3 := hf 3 _ rfl
  rw [cells_str] at g3
  have g4 : DataW.trod enc Tryz.prog W b1 (fun _ => true) held m 9 (([v0, v1, v2, v3, v4].drop 4).take (Tryz.prog.cellsOf 9)) = some y4 := hf 4 _ rfl
  rw [cells_str] at g4
  clear hf hcl hxl h
  obtain ⟨b, e0, _⟩ := DataW.trod_bool Tryz.underlying4 g0
  obtain ⟨s1, e1, q1, _⟩ := DataW.trod_string Tryz.underlying9 g1
  obtain ⟨z, e2, _, hwf⟩ := DataW.trod_int Tryz.underlying24 g2
  obtain ⟨s3, e3, q3, _⟩ := DataW.trod_string Tryz.underlying9 g3
  obtain ⟨s4, e4, q4, _⟩ := DataW.trod_string Tryz.underlying9 g4
  have hb := bounds_u64 hwf
  simp at e0 e1 e2 e3 e4
  subst e0 e1 e2 e3 e4 q1 q3 q4
  refine ⟨⟨b, s1.data.toList, z.toNat, s3.data.toList, s4.data.toList⟩, ?_, ?_, ?_, ?_, ?_⟩
  · unfold cavV
    dsimp only
    rw [bstr_data, bstr_data, bstr_data, show ((z.toNat : Nat) : Int) = z by omega]
  · show z.toNat < _; omega
  all_goals
    simp only [DataW.weights, Tryz.underlying29, List.map_cons, List.map_nil, DataW.weightsEach, List.mem_append, List.mem_singleton]
    simp
theorem cut5 {α : Type} (l : List α) : l = (l.drop 0).take 1 ++ ((l.drop 1).take 1 ++ ((l.drop 2).take 1 ++ ((l.drop 3).take 1 ++ l.drop 4))) := by
  match l with
  | [] => rfl
  | [_] => rfl
  | [_, _] => rfl
  | [_, _, _] => rfl
  | _ :: _ :: _ :: _ :: _ => rfl
/-- One cell that is a slice of caveats. -/
theorem open_cavs {n : Nat} {cs : List Value} {x : DataW H × List MemPlace} (h : DataW.trod enc Tryz.prog W b1 (fun _ => true) held n 25 cs = some x) (hsz : ∀ k ∈ x.1.weights Tryz.prog 25, k ≤ reachBytes) :
    ∃ (A : Option Addr) (c : Nat) (cvs : List Cav), cs = [.slice A cvs.length c] ∧ Sl W A (c * 5) (cvs.flatMap cavV) ∧ cvs.length ≤ 9223372036854775807 ∧ (∀ cv ∈ cvs, cv.party < 18446744073709551616) ∧
      ∀ cv ∈ cvs, cv.text.length ≤ 140737488351232 ∧ cv.id.length ≤ 140737488351232 ∧ cv.vault.length ≤ 140737488351232 := by
  rcases Deep.open_slice Tryz.underlying25 h with ⟨rfl, rfl⟩ | ⟨a, len, cap, m, k, D, Pl, rfl, _, hl, hm, hmm, rfl, hx⟩
  · exact ⟨none, 0, [], rfl, ⟨.inl rfl, Nat.le_refl _, fun _ => rfl⟩, by simp, (fun _ h => by cases h), (fun _ h => by cases h)⟩
  · have hmc : m = cap := by simpa using hmm
    unfold maxLen at hm
    have each : ∀ i, i < m → ∃ cv : Cav, (∀ j, j < 5 → W.cell? (a.add (i * 5 + j)) = (cavV cv)[j]?) ∧ cv.party < 18446744073709551616 ∧ cv.text.length ∈ (D i).weights Tryz.prog 29 ∧ cv.id.length ∈ (D i).weights Tryz.prog 29 ∧ cv.vault.length ∈ (D i).weights Tryz.prog 29 := by
      intro i hi
      obtain ⟨cs', h1, h2⟩ := hx i hi
      rw [cells_cav] at h1
      obtain ⟨cv, rfl, p1, p2, p3, p4⟩ := open_cav h2
      obtain ⟨_, _, hcell⟩ := World.cells?_some h1
      refine ⟨cv, fun j hj => ?_, p1, p2, p3, p4⟩
      have := hcell j hj
      rwa [Deep.add_add] at this
    obtain ⟨Q, hQ⟩ := Deep.choose_lt each
    have hlen : ((List.range len).map Q).length = len := by simp
    refine ⟨some a, cap, (List.range len).map Q, by rw [hlen], ⟨?_, by rw [length_cavsV, hlen]; omega, fun h => by cases h⟩, by rw [hlen]; omega, fun cv hcv => ?_, fun cv hcv => ?_⟩
    · by_cases h0 : len = 0
      · subst h0; exact .inl rfl
      · obtain ⟨b, off, spot⟩ := a
        have hc0 := (hQ 0 (by omega)).1 0 (by omega)
        have hc0 : W.cell? ((⟨b, off, spot⟩ : Addr).add (0 * 5 + 0)) = some (.bool (Q 0).third) := hc0
        have hspot : spot = none := by simpa [Addr.add] using World.cell?_spot hc0
        subst hspot
        refine .inr ⟨b, off, rfl, ?_, fun i hi => ?_⟩
        · have := World.block_lt_of_cell? W _ hc0
          rw [Addr.add_lit] at this; exact this
        · rw [length_cavsV, hlen] at hi
          have hi5 : i / 5 < len := by omega
          have hk := (hQ (i / 5) (by omega)).1 (i % 5) (by omega)
          rw [Addr.add_lit, show off + (i / 5 * 5 + i % 5) = off + i by omega] at hk
          have hfl := flat_at cavV 5 ((List.range len).map Q) (fun _ _ => rfl) (i / 5) (Q (i / 5)) (by simp [hi5]) (i % 5) (by omega)
          rw [show i / 5 * 5 + i % 5 = i by omega] at hfl
          rw [hfl]; exact hk
    · obtain ⟨i, hi, rfl⟩ := List.mem_map.1 hcv
      have hir := List.mem_range.1 hi
      exact (hQ i (by omega)).2.1
    · obtain ⟨i, hi, rfl⟩ := List.mem_map.1 hcv
      have hir := List.mem_range.1 hi
      have key : ∀ n ∈ (D i).weights Tryz.prog 29, n ≤ 140737488351232 := by
        intro n hn
        have := hsz n (by
          simp only [DataW.weights, Tryz.underlying25]
          exact List.mem_cons_of_mem _ (List.mem_append_left _ (weights_each_all (List.mem_map.2 ⟨i, hi, rfl⟩) n hn)))
        unfold reachBytes at this
        exact this
      obtain ⟨_, _, w1, w2, w3⟩ := hQ i (by omega)
      exact ⟨key _ w1, key _ w2, key _ w3⟩
/-- The cells of 32 bytes. -/
theorem open_tag {n : Nat} {cs : List Value} {x : DataW H × List MemPlace} (h : DataW.trod enc Tryz.prog W b1 (fun _ => true) held n 23 cs = some x) : ∃ l : List UInt8, l.length = 32 ∧ cs = byts l := by
  obtain ⟨xs, m, _, _, hcl, hxl, hf⟩ := DataW.trod_array Tryz.underlying23 h
  rw [cells_tag] at hcl
  have hel : ∀ i, i < cs.length → ∃ z, cs[i]? = some (.int .u8 z) ∧ (Lit.int .u8 z).wf = true := by
    intro i hi
    have h1 := hf i (by omega)
    rw [cells_u8, List.getElem?_eq_getElem (by omega)] at h1
    obtain ⟨z, hc, _, hw⟩ := DataW.trod_int Tryz.underlying5 h1
    refine ⟨z, ?_, hw⟩
    have := congrArg (·[0]?) hc
    simpa [List.getElem?_take, List.getElem?_drop] using this
  obtain ⟨zs, h1, h2, h3⟩ := ints_of_list (k := .u8) cs hel
  obtain ⟨l, q1, q2⟩ := bytes_of_ints zs (fun j hj => bounds_u8 (h3 j (by omega)))
  exact ⟨l, by omega, by rw [h2, q2]⟩
/-- 36 cells that are a token. -/
theorem open_tok {n : Nat} {cs : List Value} {x : DataW H × List MemPlace} (h : DataW.trod enc Tryz.prog W b1 (fun _ => true) held n 27 cs = some x) (hsz : ∀ k ∈ x.1.weights Tryz.prog 27, k ≤ reachBytes) :
    ∃ (t : Tok) (A : Option Addr) (c : Nat), cs = tokV t A c ∧ t.Ok ∧ t.Fit ∧ Sl W A (c * 5) (t.cavs.flatMap cavV) := by
  obtain ⟨xs, m, _, rfl, hcl, hxl, hf⟩ := DataW.trod_struct Tryz.underlying27 h
  rw [cells_tok] at hcl
  obtain ⟨y0, y1, y2, y3, y4, rfl⟩ := len5 xs hxl
  have g0 : DataW.trod enc Tryz.prog W b1 (fun _ => true) held m 24 ((cs.drop 0).take (Tryz.prog.cellsOf 24)) = some y0 := hf 0 _ rfl
  have g1 : DataW.trod enc Tryz.prog W b1 (fun _ => true) held m 9 ((cs.drop 1).take (Tryz.prog.cellsOf 9)) = some y1 := hf 1 _ rfl
  have g2 : DataW.trod enc Tryz.prog W b1 (fun _ => true) held m 25 ((cs.drop 2).take (Tryz.prog.cellsOf 25)) = some y2 := hf 2 _ rfl
  have g3 : DataW.trod enc Tryz.prog W b1 (fun _ => true) held m 4 ((cs.drop 3).take (Tryz.prog.cellsOf 4)) = some y3 := hf 3 _ rfl
  have g4 : DataW.trod enc Tryz.prog W b1 (fun _ => true) held m 23 ((cs.drop 4).take (Tryz.prog.cellsOf 23)) = some y4 := hf 4 _ rfl
  rw [cells_u64] at g0
  rw [cells_str] at g1
  rw [cells_cavs] at g2
  rw [cells_bool] at g3
  rw [cells_tag, List.take_of_length_le (by rw [List.length_drop]; omega)] at g4
  have hwe : ∀ k, (k ∈ y1.1.weights Tryz.prog 9 ∨ k ∈ y2.1.weights Tryz.prog 25) → k ≤ reachBytes := by
    intro k hk
    refine hsz k ?_
    simp only [DataW.weights, Tryz.underlying27, List.map_cons, List.map_nil, DataW.weightsEach, List.mem_append]
    rcases hk with hk | hk
    · exact .inr (.inl hk)
    · exact .inr (.inr (.inl hk))
  obtain ⟨z, e0, _, hwf⟩ := DataW.trod_int Tryz.underlying24 g0
  obtain ⟨s1, e1, q1, _⟩ := DataW.trod_string Tryz.underlying9 g1
  obtain ⟨A, c, cvs, e2, hsl, hmany, hparty, hfit⟩ := open_cavs g2 (fun k hk => hwe k (.inr hk))
  obtain ⟨b, e3, _⟩ := DataW.trod_bool Tryz.underlying4 g3
  obtain ⟨l, hl, e4⟩ := open_tag g4
  have hb := bounds_u64 hwf
  refine ⟨⟨z.toNat, s1.data.toList, cvs, b, l⟩, A, c, ?_, ⟨by show z.toNat < _; omega, hparty, hl⟩, ⟨?_, hmany, hfit⟩, hsl⟩
  · rw [cut5 cs, e0, e1, e2, e3, e4]
    unfold tokV tokH
    dsimp only
    rw [bstr_data, show ((z.toNat : Nat) : Int) = z by omega]
    rfl
  · have := hwe s1.data.toList.length (.inl (by rw [q1]; simp [DataW.weights]))
    unfold reachBytes at this
    exact this
end
set_option maxRecDepth 100000 in
/-- An argument that is a token. -/
theorem open_tokArg {H : Type} {enc : TypeId × Value → H} {W : World} {held : Bool} {b0 b1 : Nat} {r : Reach} {v : Value} {d : DataW H} {p : List MemPlace} {ts : List TypeId} {ds : List (DataW H)}
    (hv : Value.okWide Tryz.prog W r b0 27 v) (h : DataW.Trod enc Tryz.prog W b1 (fun _ => true) held 27 v d p) (hsz : (DataW.weightsEach Tryz.prog ts ds).all (· ≤ reachBytes) = true) {j : Nat} (ht : ts[j]? = some 27) (hd : ds[j]? = some d) :
    ∃ (t : Tok) (A : Option Addr) (c : Nat), v = .agg (tokV t A c).toArray ∧ t.Ok ∧ t.Fit ∧ Sl W A (c * 5) (t.cavs.flatMap cavV) := by
  simp only [Value.okWide, Tryz.underlying27] at hv
  obtain ⟨cs, rfl, _, _⟩ := hv
  obtain ⟨fuel, hf⟩ := h
  obtain ⟨t, A, c, e, h1, h2, h3⟩ := open_tok hf (fun k hk => of_decide_eq_true (List.all_eq_true.1 hsz k (DataW.weights_mem_each ht hd k hk)))
  refine ⟨t, A, c, ?_, h1, h2, h3⟩
  have e : cs.toList = tokV t A c := e
  rw [← e]
/-- A zero token, as a value and as data. -/
def zTokV : Value := .agg (#[.int .u64 0, .string { data := #[] }, .slice none 0 0, .bool false] ++ Array.replicate 32 (.int .u8 0))
def zTokD {H : Type} : DataW H := .agg [.lit (.int .u64 0), .lit (.string []), .nil, .lit (.bool false), .agg (List.replicate 32 (.lit (.int .u8 0)))]
end Go.Proofs.YtimdhdimhboboaaGreatDoor

/- AN ARGUMENT THAT IS A CAVEAT (five cells), opened, its strings' sizes out of the row's reach. -/
namespace Go.Proofs.YtimdhdimhboboaaGreatDoor
set_option maxRecDepth 100000
open Go.ChangeShapes Go.WideShapes Go.ChangeAt Go.RowKit

theorem open_cavArg {H : Type} {enc : TypeId × Value → H} {W : World} {held : Bool} {b0 b1 : Nat} {r : Reach} {v : Value} {d : DataW H} {p : List MemPlace} {ts : List TypeId} {ds : List (DataW H)}
    (hv : Value.okWide Tryz.prog W r b0 29 v) (h : DataW.Trod enc Tryz.prog W b1 (fun _ => true) held 29 v d p) (hsz : (DataW.weightsEach Tryz.prog ts ds).all (· ≤ reachBytes) = true) {j : Nat} (ht : ts[j]? = some 29) (hd : ds[j]? = some d) :
    ∃ cv : Cav, v = .agg (cavV cv).toArray ∧ cv.party < 18446744073709551616 ∧ (⟨0, [], [cv], false, List.replicate 32 0⟩ : Tok).Fit := by
  simp only [Value.okWide, Tryz.underlying29] at hv
  obtain ⟨cs, rfl, _, _⟩ := hv
  obtain ⟨fuel, hf⟩ := h
  obtain ⟨cv, e, h1, h2, h3, h4⟩ := open_cav hf
  have key : ∀ k ∈ d.weights Tryz.prog 29, k ≤ 140737488351232 := fun k hk => by
    have := of_decide_eq_true (List.all_eq_true.1 hsz k (DataW.weights_mem_each ht hd k hk))
    unfold reachBytes at this
    exact this
  refine ⟨cv, ?_, h1, by show (0 : Nat) ≤ _; omega, by show (1 : Nat) ≤ _; omega, fun c hc => by rw [List.mem_singleton.1 hc]; exact ⟨key _ h2, key _ h3, key _ h4⟩⟩
  have e : cs.toList = cavV cv := e
  rw [← e]
def zCavV : Value := .agg #[.bool false, .string { data := #[] }, .int .u64 0, .string { data := #[] }, .string { data := #[] }]
def zCavD {H : Type} : DataW H := .agg [.lit (.bool false), .lit (.string []), .lit (.int .u64 0), .lit (.string []), .lit (.string [])]
end Go.Proofs.YtimdhdimhboboaaGreatDoor
