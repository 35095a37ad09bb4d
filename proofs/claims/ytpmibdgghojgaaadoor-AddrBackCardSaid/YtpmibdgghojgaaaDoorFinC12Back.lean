/- LAYER 12, AddrBack, proved: for any address, any eight numbers and any text, and every state of memory in which the library's listed variables lie as its text lays them, the call returns true and turns nothing that was there: an address that can be comes back from its text, a text that is read is written as it was. Conditions: the library's tables and sentinels as laid (the card ties them to the program's text). -/
import Derived.Test.YtpmibdgghojgaaaDoorAv
import Derived.Test.YtpmibdgghojgaaaDoorWd
import Derived.Test.YtpmibdgghojgaaaDoorK
import Derived.Test.YtpmibdgghojgaaaDoorCards
import Derived.Test.YtpmibdgghojgaaaDoorTie
import Derived.Test.YtpmibdgghojgaaaDoorAd3
import Derived.Test.YtpmibdgghojgaaaDoorAd0
import Derived.Stop.LaidErr
import Derived.Shelf.Vars
/- LAYER 12: the law's addrAlive; addresses compared. -/
namespace Go.Proofs.YtpmibdgghojgaaaDoor
set_option maxRecDepth 100000
open Go Go.RowKit

theorem text_ex1 : textA (sixA [8193, 3512, 0, 0, 0, 0, 0, 1]) = [50, 48, 48, 49, 58, 100, 98, 56, 58, 58, 49] := by decide +kernel
theorem text_ex2 : textA (sixA [0, 0, 0, 0, 0, 0, 0, 0]) = [58, 58] := by decide +kernel
set_option maxHeartbeats 2000000 in
theorem addrAlive_any (w : World) (hE : Env w) : Calls Tryd.prog 5 #[] w fun e w' => e = .returned (.bool true) ∧ Below w.heap.size w w' := by
  have h1 := Lib.hid (fun w' => show Calls Tryd.prog 12 #[.agg #[.int .u16 8193, .int .u16 3512, .int .u16 0, .int .u16 0, .int .u16 0, .int .u16 0, .int .u16 0, .int .u16 1]] w' _ from asix_any [8193, 3512, 0, 0, 0, 0, 0, 1] rfl (by decide) w')
  have h2 := Lib.hid (fun w' => show Calls Tryd.prog 12 #[.agg #[.int .u16 0, .int .u16 0, .int .u16 0, .int .u16 0, .int .u16 0, .int .u16 0, .int .u16 0, .int .u16 0]] w' _ from asix_any [0, 0, 0, 0, 0, 0, 0, 0] rfl (by decide) w')
  have t1 := Lib.hid (fun w' hE => atext_any (sixA [8193, 3512, 0, 0, 0, 0, 0, 1]) (sixA_ok _ rfl) w' hE)
  have t2 := Lib.hid (fun w' hE => atext_any (sixA [0, 0, 0, 0, 0, 0, 0, 0]) (sixA_ok _ rfl) w' hE)
  rw [text_ex1] at t1
  rw [text_ex2] at t2
  generalize adrV (sixA [8193, 3512, 0, 0, 0, 0, 0, 1]) = V1 at *
  generalize adrV (sixA [0, 0, 0, 0, 0, 0, 0, 0]) = V2 at *
  have e1 : ((bstr [50, 48, 48, 49, 58, 100, 98, 56, 58, 58, 49]).toList == [50, 48, 48, 49, 58, 100, 98, 56, 58, 58, 49]) = true := by rw [bstr_toList]; rfl
  have e2 : ((bstr [58, 58]).toList == [58, 58]) = true := by rw [bstr_toList]; rfl
  have tok1 : True := trivial
  have tok2 : True := trivial
  go_enter Tryd.func5, Tryd.ntmps5
  go_wp2_with (first
    | (go_at_call 12; have _t := tok1; refine (h1.out _).mono ?_; rintro e w2 ⟨rfl, hb2⟩; have hE2 := hE.next hb2; clear h1 tok1)
    | (go_at_call 12; refine (h2.out _).mono ?_; rintro e w4 ⟨rfl, hb4⟩; have hE4 := hE3.next hb4; have hb4 := hb3.trans (hb4.mono hb3.size); clear h2)
    | (go_at_call 10; have _t := tok2; refine (t1.out _ hE2).mono ?_; rintro e w3 ⟨rfl, hb3⟩; have hE3 := hE2.next hb3; have hb3 := hb2.trans (hb3.mono hb2.size); clear t1 tok2)
    | (go_at_call 10; refine (t2.out _ hE4).mono ?_; rintro e w5 ⟨rfl, hb5⟩; have hb5 := hb4.trans (hb5.mono hb4.size)))
  go_ret
  exact ⟨rfl, hb5⟩
theorem part_v6 (a : Adr) (w : World) : (Go.part 4 (adrV a).toArray 0).run Tryd.prog w = .ok (.bool a.v6) w := by
  simp only [Go.part, isAgg, Sem.run_bind, run_underlying Tryd.underlying4, Result.andThen_ok, Sem.run_pure]
  rfl
theorem isAgg16 (w : World) : (isAgg 22).run Tryd.prog w = .ok true w := by kernel_rfl
theorem sizeOf16 (w : World) : (sizeOf 22).run Tryd.prog w = .ok 16 w := by kernel_rfl
theorem part_b (a : Adr) (h : a.Ok) (w : World) : (Go.part 22 (adrV a).toArray 1).run Tryd.prog w = .ok (.agg (byts a.b).toArray) w := by
  have e : (adrV a).toArray.extract 1 17 = (byts a.b).toArray := by
    rw [List.extract_toArray]
    unfold adrV
    congr 1
    show (byts a.b).take 16 = byts a.b
    exact List.take_of_length_le (by rw [length_byts, h]; exact Nat.le_refl _)
  simp only [Go.part, Sem.run_bind, isAgg16, Result.andThen_ok, if_true, sizeOf16, Sem.run_pure]
  rw [e]
theorem run_items_d (d : Nat) (xs ys : List UInt8) (is : List Nat) (hx : ∀ i ∈ is, i < xs.length) (hy : ∀ i ∈ is, i < ys.length) (w : World) :
    (Op.eqItems (d + 1) 5 1 (byts xs).toArray (byts ys).toArray is).run Tryd.prog w = .ok (is.all fun i => decide (xs.getD i 0 = ys.getD i 0)) w := by
  induction is with
  | nil => simp [Op.eqItems]
  | cons i is ih =>
    have h := ih (fun j hj => hx j (by simp [hj])) (fun j hj => hy j (by simp [hj]))
    simp only [Op.eqItems, Sem.run_bind, part_byte xs i (hx i (by simp)) w, part_byte ys i (hy i (by simp)) w, Result.andThen_ok, run_equalIn_int w d 5 .u8 .u8 _ _ Tryd.underlying5, List.all_cons]
    generalize xs.getD i 0 = a
    generalize ys.getD i 0 = b
    by_cases e : a = b
    · subst e
      simp only [BEq.rfl, Bool.not_true, Bool.false_eq_true, if_false, decide_true, Bool.true_and, h]
    · have e' : ((a.toNat : Int) == (b.toNat : Int)) = false := by
        rw [beq_eq_false_iff_ne]
        intro h
        exact e (UInt8.toNat_inj.1 (by omega))
      simp only [e', e, Bool.not_false, if_true, decide_false, Bool.false_and, Sem.run_pure]
/-- Two addresses, compared. -/
theorem eq_adr (a b : Adr) (ha : a.Ok) (hb : b.Ok) (w : World) : (Op.equalIn 10000 24 (.agg (adrV a).toArray) (.agg (adrV b).toArray)).run Tryd.prog w = .ok (a.v6 == b.v6 && decide (a.b = b.b)) w := by
  rw [run_equalIn_struct w 9999 24 _ _ (by kernel_rfl) (by kernel_rfl)]
  obtain ⟨i0, hi, _⟩ := info_parts infoByte
  have h16 : (Op.equalIn 9999 22 (.agg (byts a.b).toArray) (.agg (byts b.b).toArray)).run Tryd.prog w = .ok (decide (a.b = b.b)) w := by
    rw [run_equalIn_array w 9998 _ _ Tryd.underlying22 hi, cells_byte, run_items_d 9997 a.b b.b (List.range 16) (fun i h => by rw [ha]; simpa using h) (fun i h => by rw [hb]; simpa using h) w]
    have := all_getD a.b b.b (by rw [ha, hb])
    rw [ha] at this
    rw [this]
  have hb4 := run_equalIn_bool' (P := Tryd.prog) w 9998 4 a.v6 b.v6 Tryd.underlying4
  cases hv : (a.v6 == b.v6) <;> cases hd : decide (a.b = b.b) <;> rw [hv] at hb4 <;> rw [hd] at h16 <;>
    simp [Program.fieldsOf, Tryd.underlying24, Op.eqFields, Sem.run_bind, part_v6, part_b a ha, part_b b hb, hb4, h16]
end Go.Proofs.YtpmibdgghojgaaaDoor

/- LAYER 12, AddrBack: the walk of the law. -/
namespace Go.Proofs.YtpmibdgghojgaaaDoor
set_option maxRecDepth 100000
open Go Go.RowKit

theorem list17 {V : List Value} (h : V.length = 17) : ∃ a0 a1 a2 a3 a4 a5 a6 a7 a8 a9 b0 b1 b2 b3 b4 b5 b6, V = [a0, a1, a2, a3, a4, a5, a6, a7, a8, a9, b0, b1, b2, b3, b4, b5, b6] := by
  match V, h with
  | [a0, a1, a2, a3, a4, a5, a6, a7, a8, a9, b0, b1, b2, b3, b4, b5, b6], _ => exact ⟨a0, a1, a2, a3, a4, a5, a6, a7, a8, a9, b0, b1, b2, b3, b4, b5, b6, rfl⟩
theorem build3 (V0 V1 V2 : List Value) (h0 : V0.length = 17) (h1 : V1.length = 17) (h2 : V2.length = 17) (w : World) :
    (Instr.buildSlice 35 3 #[(0, .agg V0.toArray), (1, .agg V1.toArray), (2, .agg V2.toArray)]).run Tryd.prog w = .ok (.slice (some ⟨w.heap.size, 0, none⟩) 3 3) (w.alloc (.cells (V0 ++ V1 ++ V2).toArray 24)) := by
  obtain ⟨a0, a1, a2, a3, a4, a5, a6, a7, a8, a9, b0, b1, b2, b3, b4, b5, b6, rfl⟩ := list17 h0
  obtain ⟨c0, c1, c2, c3, c4, c5, c6, c7, c8, c9, d0, d1, d2, d3, d4, d5, d6, rfl⟩ := list17 h1
  obtain ⟨e0, e1, e2, e3, e4, e5, e6, e7, e8, e9, f0, f1, f2, f3, f4, f5, f6, rfl⟩ := list17 h2
  go_simp
theorem step_slice3 {P : Program} {w w' : World} {ops : Array Oper} {o : Oper} {a : Act} {K : Act → World → Prop} {Q : Exit → Act → World → Prop} {E : Prop} (dst : Option Tmp) (hdst : o.dst = dst) (hgd : Region.wanted o (yielded ops a.tmps) = true) (ty : TypeId) (n : Nat) (x y z : Operand) (ho : o.op = .buildSlice ty n #[(0, x), (1, y), (2, z)]) (v0 v1 v2 v : Value) (hx : a.eval x = v0) (hy : a.eval y = v1) (hz : a.eval z = v2)
    (hv : (Instr.buildSlice ty n #[(0, v0), (1, v1), (2, v2)]).run P w = .ok v w') (h : K (a.put dst v) w') : if Region.wanted o (yielded ops a.tmps) = true then Oper.wp P o a w K Q else E := by
  subst hdst
  rw [if_pos hgd]
  unfold Oper.wp execOp
  simp only [ho, Sem.run_bind, Sem.run_pure, Result.andThen_ok, List.map_toArray, List.map_cons, List.map_nil, hx, hy, hz, hv]
  exact h
theorem field_b (x : Adr) (h : x.Ok) (w : World) : (Instr.field 24 (.agg (adrV x).toArray) 1).run Tryd.prog w = .ok (.agg (byts x.b).toArray) w := by
  obtain ⟨v, b⟩ := x
  match b, h with
  | [a0, a1, a2, a3, a4, a5, a6, a7, a8, a9, b0, b1, b2, b3, b4, b5], _ => show _ = _; kernel_rfl
theorem bytes6_at (l : List Nat) (k : Nat) (hk : k < l.length) : (bytes6 l)[2 * k]? = some (UInt8.ofNat (l.getD k 0 / 256)) ∧ (bytes6 l)[2 * k + 1]? = some (UInt8.ofNat (l.getD k 0 % 256)) := by
  have e : bytes6 l = bytes6 (l.take k) ++ (UInt8.ofNat (l.getD k 0 / 256) :: UInt8.ofNat (l.getD k 0 % 256) :: bytes6 (l.drop (k + 1))) := by
    have h := bytes6_succ l k hk
    have h2 : bytes6 l = bytes6 (l.take (k + 1)) ++ bytes6 (l.drop (k + 1)) := by
      unfold bytes6
      rw [← List.flatMap_append, List.take_append_drop]
    rw [h2, h, List.append_assoc]; rfl
  have hl : (bytes6 (l.take k)).length = 2 * k := by rw [length_bytes6, List.length_take]; omega
  rw [e]
  constructor
  · rw [List.getElem?_append_right (by omega), hl, Nat.sub_self]; rfl
  · rw [List.getElem?_append_right (by omega), hl, show 2 * k + 1 - 2 * k = 1 by omega]; rfl
theorem six_cells (l : List Nat) (h8 : l.length = 8) (hm : ∀ n ∈ l, n ≤ 65535) (k : Nat) (hk : k < 8) : (byts (sixA l).b)[2 * k]? = some (.int .u8 (((l.getD k 0 : Nat) : Int) / 256)) ∧ (byts (sixA l).b)[2 * k + 1]? = some (.int .u8 (((l.getD k 0 : Nat) : Int) % 256)) := by
  obtain ⟨h1, h2⟩ := bytes6_at l k (by omega)
  have hn : l.getD k 0 ≤ 65535 := hm _ (by rw [List.getD_eq_getElem?_getD, List.getElem?_eq_getElem (by omega)]; exact List.getElem_mem _)
  show (byts (bytes6 l))[2 * k]? = _ ∧ (byts (bytes6 l))[2 * k + 1]? = _
  unfold byts
  rw [List.getElem?_map, List.getElem?_map, h1, h2]
  generalize l.getD k 0 = n at *
  constructor
  · show some (Value.int .u8 ((UInt8.ofNat (n / 256)).toNat : Int)) = _
    rw [UInt8.toNat_ofNat', Nat.mod_eq_of_lt (by omega)]; congr 2
  · show some (Value.int .u8 ((UInt8.ofNat (n % 256)).toNat : Int)) = _
    rw [UInt8.toNat_ofNat', Nat.mod_eq_of_lt (by omega)]; congr 2
/-- How long an address's text can be. -/
theorem glue_len1 (x : UInt8) (ps : List (List UInt8)) (m : Nat) (hm : ∀ p ∈ ps, p.length ≤ m) : (glueL x ps).length + 1 ≤ (m + 1) * ps.length + (if ps = [] then 1 else 0) := by
  induction ps with
  | nil => simp [glueL]
  | cons p ps ih =>
    have h1 := hm p (List.mem_cons_self ..)
    have h2 := ih (fun q hq => hm q (List.mem_cons_of_mem _ hq))
    cases ps with
    | nil => show p.length + 1 ≤ _; simp; omega
    | cons q ps =>
      rw [glueL_cons x p (q :: ps) (by simp), List.length_append, List.length_cons, if_neg (by simp)]
      rw [if_neg (by simp)] at h2
      rw [List.length_cons, Nat.mul_succ]
      omega
theorem joinN_len5 (l : List Nat) (hm : ∀ n ∈ l, n ≤ 65535) : (joinN l).length ≤ 5 * l.length := by
  rw [joinN_glue]
  have := glue_len1 58 (l.map (numL 16)) 4 (by
    intro p hp
    obtain ⟨n, hn, rfl⟩ := List.mem_map.1 hp
    exact numL16_len n (hm n hn))
  rw [List.length_map] at this
  split at this <;> omega
theorem joinN_len8 (l : List Nat) (h8 : l.length = 8) (hm : ∀ n ∈ l, n ≤ 65535) : (joinN l).length ≤ 39 := by
  rw [joinN_glue]
  have := glue_len1 58 (l.map (numL 16)) 4 (by
    intro p hp
    obtain ⟨n, hn, rfl⟩ := List.mem_map.1 hp
    exact numL16_len n (hm n hn))
  rw [List.length_map, h8, if_neg (by intro h; have := congrArg List.length h; simp [h8] at this)] at this
  omega
theorem textA_len (a : Adr) : (textA a).length ≤ 39 := by
  unfold textA
  split
  · split
    · unfold textN
      dsimp only
      have h8 := numsA_len a
      have hm := numsA_le a
      split
      · exact joinN_len8 _ h8 hm
      · rename_i hz
        have h1 := joinN_len5 ((numsA a).take (bestL (numsA a))) (fun n hn => hm n (List.mem_of_mem_take hn))
        have h2 := joinN_len5 ((numsA a).drop (bestL (numsA a) + zerosL ((numsA a).drop (bestL (numsA a))))) (fun n hn => hm n (List.mem_of_mem_drop hn))
        have h3 := best_le (numsA a) h8
        rw [List.length_take] at h1
        rw [List.length_drop] at h2
        rw [List.length_append, List.length_cons, List.length_cons]
        omega
    · have k0 := numL10_len (a.b.getD 0 0).toNat (by have := (a.b.getD 0 0).toNat_lt; omega)
      have k1 := numL10_len (a.b.getD 1 0).toNat (by have := (a.b.getD 1 0).toNat_lt; omega)
      have k2 := numL10_len (a.b.getD 2 0).toNat (by have := (a.b.getD 2 0).toNat_lt; omega)
      have k3 := numL10_len (a.b.getD 3 0).toNat (by have := (a.b.getD 3 0).toNat_lt; omega)
      simp only [List.length_append, List.length_cons]
      omega
  · simp
/-- What Parse answers of an address's own text. -/
theorem pars_text (x : Adr) (h : x.Ok) : parsV (parseL (textA x)) = .tuple #[.agg (adrV (if checkA x then x else zeroA)).toArray, .bool (checkA x)] := by
  cases hc : checkA x with
  | true => rw [(parseL_iff (textA x) x).2 ⟨h, hc, rfl⟩]; rfl
  | false =>
    have ht : textA x = [] := by unfold textA; rw [hc]; rfl
    rw [ht, show parseL [] = none from by decide +kernel]; rfl
set_option maxHeartbeats 8000000 in
theorem aback_walk (a : Adr) (ha : a.Ok) (l : List Nat) (h8 : l.length = 8) (hm : ∀ n ∈ l, n ≤ 65535) (s : List UInt8) (w : World) (hE : Env w) :
    Calls Tryd.prog 4 #[.agg (adrV a).toArray, .agg (hwV l).toArray, .string (bstr s)] w fun e w' => e = .returned (.bool true) ∧ Below w.heap.size w w' := by
  have hal := Lib.hid (fun w' hE => addrAlive_any w' hE)
  have hzs := size_bstr s
  obtain ⟨V, hV⟩ : ∃ V, V = adrV a := ⟨_, rfl⟩
  obtain ⟨H, hH⟩ : ∃ H, H = hwV l := ⟨_, rfl⟩
  obtain ⟨w1, hw1⟩ : ∃ w1, w1 = (w.alloc (.cells V.toArray 24)).alloc (.cells H.toArray 32) := ⟨_, rfl⟩
  have hsz1 : (w.alloc (.cells V.toArray 24)).heap.size = w.heap.size + 1 := World.size_alloc _ _
  have r1 : Row w1 w.heap.size 24 V := by rw [hw1]; exact (Row.new w _ _).later ((Below.refl (w.heap.size + 1) _).alloc (by rw [hsz1]; omega) _) (by omega)
  have g1 : Row w1 (w.heap.size + 1) 32 H := by rw [hw1, ← hsz1]; exact Row.new _ _ _
  have hb1 : Below w.heap.size w w1 := by rw [hw1]; exact ((Below.refl _ w).alloc (Nat.le_refl _) _).alloc (by rw [hsz1]; omega) _
  have hE1 := hE.next hb1
  rw [← hV, ← hH]
  have HV := Lib.hid hV
  have HH := Lib.hid hH
  by_cases h5 : 500 < s.length
  · have h5' : (500 : Int) < (s.length : Int) := by omega
    clear hV hH HV HH r1 g1 hE h5 hsz1 h8
    generalize s.length = n at *
    generalize bstr s = S at *
    go_enter Tryd.func4, Tryd.ntmps4
    go_wp2_with (go_at_call 5; rw [← hw1]; clear hw1; refine (hal.out _ hE1).mono ?_; rintro e w2 ⟨rfl, hb2⟩)
    go_ret
    exact ⟨rfl, hb1.trans (hb2.mono hb1.size)⟩
  · have h5' : (s.length : Int) ≤ 500 := by omega
    have hs500 : s.length ≤ 500 := by omega
    obtain ⟨x0, hx0⟩ : ∃ x, x = UInt8.ofNat (l.getD 0 0) := ⟨_, rfl⟩
    obtain ⟨x1, hx1⟩ : ∃ x, x = UInt8.ofNat (l.getD 1 0) := ⟨_, rfl⟩
    obtain ⟨x2, hx2⟩ : ∃ x, x = UInt8.ofNat (l.getD 2 0) := ⟨_, rfl⟩
    obtain ⟨x3, hx3⟩ : ∃ x, x = UInt8.ofNat (l.getD 3 0) := ⟨_, rfl⟩
    have u8w : ∀ (n : Nat) (x : UInt8), x = UInt8.ofNat n → IntKind.u8.wrap (n : Int) = (x.toNat : Int) := fun n x h => by rw [h, UInt8.toNat_ofNat', IntKind.wrap_u8]; omega
    have hw0 := u8w _ _ hx0
    have hw1' := u8w _ _ hx1
    have hw2' := u8w _ _ hx2
    have hw3 := u8w _ _ hx3
    have HG0 := Lib.hid (show H[0]? = some (.int .u16 (l.getD 0 0 : Nat)) by rw [hH]; exact get_hwV l 0 (by omega))
    have HG1 := Lib.hid (show H[1]? = some (.int .u16 (l.getD 1 0 : Nat)) by rw [hH]; exact get_hwV l 1 (by omega))
    have HG2 := Lib.hid (show H[2]? = some (.int .u16 (l.getD 2 0 : Nat)) by rw [hH]; exact get_hwV l 2 (by omega))
    have HG3 := Lib.hid (show H[3]? = some (.int .u16 (l.getD 3 0 : Nat)) by rw [hH]; exact get_hwV l 3 (by omega))
    clear hx0 hx1 hx2 hx3 u8w
    have hsix := Lib.hid (fun w' => asix_any l h8 hm w')
    have hfour := Lib.hid (fun w' => afour_any x0 x1 x2 x3 w')
    have hok1 := sixA_ok l h8
    have hok2 := four4_ok x0 x1 x2 x3
    obtain ⟨V1, hV1⟩ : ∃ V, V = adrV (sixA l) := ⟨_, rfl⟩
    obtain ⟨V2, hV2⟩ : ∃ V, V = adrV (four4 x0 x1 x2 x3) := ⟨_, rfl⟩
    rw [← hH, ← hV1] at hsix
    rw [← hV2] at hfour
    have HFL := Lib.hid (show V ++ V1 ++ V2 = [a, sixA l, four4 x0 x1 x2 x3].flatMap adrV by rw [hV, hV1, hV2]; simp)
    have HOK := Lib.hid (show ∀ x ∈ [a, sixA l, four4 x0 x1 x2 x3], x.Ok by
      intro x hx
      simp at hx
      rcases hx with rfl | rfl | rfl
      · exact ha
      · exact hok1
      · exact hok2)
    generalize four4 x0 x1 x2 x3 = xf at *
    have hzV := Lib.hid (show (Tryd.prog.info? 24).map (·.size) = some V.length by rw [hV, size_adr, length_adrV ha])
    have hzH := Lib.hid (show (Tryd.prog.info? 32).map (·.size) = some H.length by rw [hH, length_hwV, h8]; kernel_rfl)
    have hV17 := Lib.hid (show V.length = 17 by rw [hV]; exact length_adrV ha)
    have hV117 := Lib.hid (show V1.length = 17 by rw [hV1]; exact length_adrV hok1)
    have hV217 := Lib.hid (show V2.length = 17 by rw [hV2]; exact length_adrV hok2)
    have H8 := Lib.hid h8
    have HM := Lib.hid hm
    have HX1 := Lib.hid hV1
    clear hV hH hV1 hV2 h8 hm hok1 hok2 hsz1
    generalize l.getD 0 0 = n0 at *
    generalize l.getD 1 0 = n1 at *
    generalize l.getD 2 0 = n2 at *
    generalize l.getD 3 0 = n3 at *
    go_enter Tryd.func4, Tryd.ntmps4
    go_wp2_with (go_at_call 5; rw [← hw1]; clear hw1; refine (hal.out _ hE1).mono ?_; rintro e w2 ⟨rfl, hb2⟩; have hE2 := hE1.next hb2; have r2 := r1.later hb2 r1.lt; have g2 := g1.later hb2 g1.lt; have hb2 := hb1.trans (hb2.mono hb1.size); clear r1 g1 hb1 hE1)
    refine wp_region_noPanic ?_
    refine wp_region_held_drew (S := fun w' => Below w2.heap.size w2 w') (by kernel_rfl) ((Below.refl _ _).drew) (fun hHeld => ?_)
    have hB := hHeld
    refine rtake 0 _ (some 21) _ rfl rfl (by kernel_rfl) (by kernel_rfl) (by kernel_rfl) (fun _ _ _ h => h) (by rfl) hHeld (by intro w hS; exact run_load_op 24 (.tmp 3) rfl _ 0 rfl V _ (row_range (r2.later hS r2.lt)) Tryd.underlying24 rfl hzV.out) ?_
    try (first | (rw [put_some]; dsimp only [List.set]) | rw [put_none])
    refine rtake 1 _ (some 22) _ rfl rfl (by kernel_rfl) (by kernel_rfl) (by kernel_rfl) (fun _ _ _ h => h) (by rfl) hHeld (by intro w hS; exact run_load_op 32 (.tmp 4) rfl _ 0 rfl H _ (row_range (g2.later hS g2.lt)) Tryd.underlying32 rfl hzH.out) ?_
    try (first | (rw [put_some]; dsimp only [List.set]) | rw [put_none])
    refine rtake 3 _ (some 24) _ rfl rfl (by kernel_rfl) (by kernel_rfl) (by kernel_rfl) (fun _ _ _ h => h) (by rfl) hHeld (by intro w hS; go_simp; try with_reducible rfl) ?_
    try (first | (rw [put_some]; dsimp only [List.set]) | rw [put_none])
    refine rtake 4 _ (some 25) _ rfl rfl (by kernel_rfl) (by kernel_rfl) (by kernel_rfl) (fun _ _ _ h => h) (by rfl) hHeld (by intro w hS; have hc := ((g2.later hS g2.lt).cell 0).trans HG0.out; go_simp; try with_reducible rfl) ?_
    try (first | (rw [put_some]; dsimp only [List.set]) | rw [put_none])
    refine rtake 5 _ (some 26) _ rfl rfl (by kernel_rfl) (by kernel_rfl) (by kernel_rfl) (fun _ _ _ h => h) (by rfl) hHeld (by intro w hS; go_simp; try with_reducible rfl) ?_
    try (first | (rw [put_some]; dsimp only [List.set]) | rw [put_none])
    refine rtake 6 _ (some 27) _ rfl rfl (by kernel_rfl) (by kernel_rfl) (by kernel_rfl) (fun _ _ _ h => h) (by rfl) hHeld (by intro w hS; go_simp; try with_reducible rfl) ?_
    try (first | (rw [put_some]; dsimp only [List.set]) | rw [put_none])
    refine rtake 7 _ (some 28) _ rfl rfl (by kernel_rfl) (by kernel_rfl) (by kernel_rfl) (fun _ _ _ h => h) (by rfl) hHeld (by intro w hS; have hc := ((g2.later hS g2.lt).cell 1).trans HG1.out; go_simp; try with_reducible rfl) ?_
    try (first | (rw [put_some]; dsimp only [List.set]) | rw [put_none])
    refine rtake 8 _ (some 29) _ rfl rfl (by kernel_rfl) (by kernel_rfl) (by kernel_rfl) (fun _ _ _ h => h) (by rfl) hHeld (by intro w hS; go_simp; try with_reducible rfl) ?_
    try (first | (rw [put_some]; dsimp only [List.set]) | rw [put_none])
    refine rtake 9 _ (some 30) _ rfl rfl (by kernel_rfl) (by kernel_rfl) (by kernel_rfl) (fun _ _ _ h => h) (by rfl) hHeld (by intro w hS; go_simp; try with_reducible rfl) ?_
    try (first | (rw [put_some]; dsimp only [List.set]) | rw [put_none])
    refine rtake 10 _ (some 31) _ rfl rfl (by kernel_rfl) (by kernel_rfl) (by kernel_rfl) (fun _ _ _ h => h) (by rfl) hHeld (by intro w hS; have hc := ((g2.later hS g2.lt).cell 2).trans HG2.out; go_simp; try with_reducible rfl) ?_
    try (first | (rw [put_some]; dsimp only [List.set]) | rw [put_none])
    refine rtake 11 _ (some 32) _ rfl rfl (by kernel_rfl) (by kernel_rfl) (by kernel_rfl) (fun _ _ _ h => h) (by rfl) hHeld (by intro w hS; go_simp; try with_reducible rfl) ?_
    try (first | (rw [put_some]; dsimp only [List.set]) | rw [put_none])
    refine rtake 12 _ (some 33) _ rfl rfl (by kernel_rfl) (by kernel_rfl) (by kernel_rfl) (fun _ _ _ h => h) (by rfl) hHeld (by intro w hS; go_simp; try with_reducible rfl) ?_
    try (first | (rw [put_some]; dsimp only [List.set]) | rw [put_none])
    refine rtake 13 _ (some 34) _ rfl rfl (by kernel_rfl) (by kernel_rfl) (by kernel_rfl) (fun _ _ _ h => h) (by rfl) hHeld (by intro w hS; have hc := ((g2.later hS g2.lt).cell 3).trans HG3.out; go_simp; try with_reducible rfl) ?_
    try (first | (rw [put_some]; dsimp only [List.set]) | rw [put_none])
    refine rtake 14 _ (some 35) _ rfl rfl (by kernel_rfl) (by kernel_rfl) (by kernel_rfl) (fun _ _ _ h => h) (by rfl) hHeld (by intro w hS; go_simp; try with_reducible rfl) ?_
    try (first | (rw [put_some]; dsimp only [List.set]) | rw [put_none])
    refine rtake 18 _ (some 39) _ rfl rfl (by kernel_rfl) (by kernel_rfl) (by kernel_rfl) (fun _ _ _ h => h) (by rfl) hHeld (by intro w hS; go_simp; try with_reducible rfl) ?_
    try (first | (rw [put_some]; dsimp only [List.set]) | rw [put_none])
    refine wpAnyH_ready (rs := [2]) (by kernel_rfl) (by simp) (AllReadyH.cons (o := _) rfl (fun K hK => ?_) AllReadyH.nil)
    go_simp
    refine (hsix.out _).mono ?_; rintro e ww22 ⟨rfl, hqw22⟩
    try go_wp2_with fail
    refine hK.out _ _ (hHeld.trans (hqw22.mono hHeld.size)) (fun hHeld' => ?_)
    clear hK K
    try (first | (rw [put_some]; dsimp only [List.set]) | rw [put_none])
    have hB := below_step hB hqw22
    have hB2 : Below ww22.heap.size ww22 ww22 := Below.refl _ _
    refine wpAnyH_narrow (S' := fun w' => Below ww22.heap.size ww22 w') (fun _ h => (hHeld.trans (hqw22.mono hHeld.size)).trans (h.mono (hHeld.trans (hqw22.mono hHeld.size)).size)) _ _ _ _ ?_
    clear hHeld
    have hHeld : Below ww22.heap.size ww22 ww22 := Below.refl _ _
    refine wpAnyH_ready (rs := [15]) (by kernel_rfl) (by simp) (AllReadyH.cons (o := _) rfl (fun K hK => ?_) AllReadyH.nil)
    go_simp
    refine (hfour.out _).mono ?_; rintro e ww215 ⟨rfl, hqw215⟩
    try go_wp2_with fail
    refine hK.out _ _ (hHeld.trans (hqw215.mono hHeld.size)) (fun hHeld' => ?_)
    clear hK K
    try (first | (rw [put_some]; dsimp only [List.set]) | rw [put_none])
    have hB := below_step hB hqw215
    have hB2 := below_step hB2 hqw215
    have hB15 : Below ww215.heap.size ww215 ww215 := Below.refl _ _
    refine wpAnyH_narrow (S' := fun w' => Below ww215.heap.size ww215 w') (fun _ h => (hHeld.trans (hqw215.mono hHeld.size)).trans (h.mono (hHeld.trans (hqw215.mono hHeld.size)).size)) _ _ _ _ ?_
    clear hHeld
    have hHeld : Below ww215.heap.size ww215 ww215 := Below.refl _ _
    refine wpAnyH_ready (rs := [16]) (by kernel_rfl) (by simp) (AllReadyH.cons (o := _) rfl (fun K hK => ?_) AllReadyH.nil)
    refine step_slice3 (some 37) rfl (by rfl) 35 3 (.tmp 21) (.tmp 23) (.tmp 36) rfl _ _ _ _ rfl rfl rfl (build3 V V1 V2 hV17.out hV117.out hV217.out _) ?_; obtain ⟨ww216, hw16⟩ : ∃ x, x = (ww215).alloc (.cells (V ++ V1 ++ V2).toArray 24) := ⟨_, rfl⟩; have r16 : Row ww216 (ww215).heap.size 24 (V ++ V1 ++ V2) := by rw [hw16]; exact Row.new _ _ _
    have hqw216 : Below (ww215).heap.size (ww215) ww216 := by rw [hw16]; exact (Below.refl _ _).alloc (Nat.le_refl _) _
    rw [← hw16]
    clear hw16
    refine hK.out _ _ (hHeld.trans (hqw216.mono hHeld.size)) (fun hHeld' => ?_)
    clear hK K
    try (first | (rw [put_some]; dsimp only [List.set]) | rw [put_none])
    have hB := below_step hB hqw216
    have hB2 := below_step hB2 hqw216
    have hB15 := below_step hB15 hqw216
    have hB16 : Below ww216.heap.size ww216 ww216 := Below.refl _ _
    refine wpAnyH_narrow (S' := fun w' => Below ww216.heap.size ww216 w') (fun _ h => (hHeld.trans (hqw216.mono hHeld.size)).trans (h.mono (hHeld.trans (hqw216.mono hHeld.size)).size)) _ _ _ _ ?_
    clear hHeld
    have hHeld : Below ww216.heap.size ww216 ww216 := Below.refl _ _
    refine rtake 17 _ (some 38) _ rfl rfl (by kernel_rfl) (by kernel_rfl) (by kernel_rfl) (fun _ _ _ h => h) (by rfl) hHeld (by intro w hS; go_simp; try with_reducible rfl) ?_
    try (first | (rw [put_some]; dsimp only [List.set]) | rw [put_none])
    refine wpAnyH_done (by kernel_rfl) ?_ _
    refine NoPanic.normal ?_
    rw [HFL.out] at r16
    have hE5 := hE2.next hB
    have g5 := g2.later hB g2.lt
    have hb5 := hb2.trans (hB.mono hb2.size)
    have hlen3 : ([a, sixA l, xf].flatMap adrV).length = 51 := by rw [← HFL.out, List.length_append, List.length_append, hV17.out, hV117.out, hV217.out]
    have hs5 := sl_of_own (own_of_row r16 (Nat.le_refl _) (by rw [hlen3]; unfold maxLen; omega))
    rw [hlen3] at hs5
    have hO0 := HOK.out
    have h3 : [a, sixA l, xf].length = 3 := rfl
    generalize [a, sixA l, xf] = L3 at *
    generalize ww215.heap.size = gA at *
    obtain ⟨w5, rfl⟩ : ∃ x : World, x = ww216 := ⟨_, rfl⟩
    have HO := Lib.hid hO0
    have H3 := Lib.hid h3
    clear hO0 HOK HFL hHeld hHeld' r2 g2 hb2 hE2 r16 hlen3 h3 hB hB2 hB15 hB16 hqw22 hqw215 hqw216 hsix hfour hw0 hw1' hw2' hw3 HG0 HG1 HG2 HG3 hal HV hV17 hV217 hzV
    go_wp2_with fail
    go_loopw [39] (fun i wr => ∃ k : Nat, k ≤ 3 ∧ i = .int .i64 k ∧ Env wr ∧ Sl wr (some ⟨gA, 0, none⟩) 51 (L3.flatMap adrV) ∧ Row wr (w.heap.size + 1) 32 H ∧ Below w.heap.size w wr) (fun i _ => 3 - (intOf i).toNat)
    case atStart => exact ⟨0, by omega, rfl, hE5, hs5, g5, hb5⟩
    case round =>
      clear hE5 hs5 g5 hb5
      obtain ⟨k, hk, rfl, hE5, hs5, g5, hb5⟩ := hrel
      by_cases hlt : k < 3
      · have hlt' : (k : Int) < 3 := by omega
        obtain ⟨x, hx⟩ : ∃ x, L3[k]? = some x := ⟨_, List.getElem?_eq_getElem (by rw [H3.out]; exact hlt)⟩
        have hxo : x.Ok := HO.out x (List.mem_of_getElem? hx)
        have hrg := hs5.thing (k := 17) (fun y hy => length_adrV (HO.out y hy)) k x hx
        rw [Nat.zero_add] at hrg
        have hix : ∀ w, (Instr.indexAt 35 (.slice (some ⟨gA, 0, none⟩) 3 3) (.int .i64 k)).run Tryd.prog w = .ok (.pointer (some ⟨gA, k * 17, none⟩)) w := by
          intro w
          have : k = 0 ∨ k = 1 ∨ k = 2 := by omega
          rcases this with rfl | rfl | rfl <;> (show _ = _; kernel_rfl)
        have htx := Lib.hid (fun w' hE => atext_any x hxo w' hE)
        have hck := Lib.hid (fun w' => acheck_any x hxo w')
        have hpa := Lib.hid (fun w' hE => aparse_any (textA x) (Nat.le_trans (textA_len x) (by omega)) w' hE)
        rw [pars_text x hxo] at hpa
        have hTl : ((bstr (textA x)).size : Int) ≤ 39 := by rw [size_bstr]; have := textA_len x; omega
        have hyo : (if checkA x then x else zeroA).Ok := by split; exact hxo; exact zeroA_ok
        obtain ⟨X, hX⟩ : ∃ X, X = adrV x := ⟨_, rfl⟩
        obtain ⟨Y, hY⟩ : ∃ Y, Y = adrV (if checkA x then x else zeroA) := ⟨_, rfl⟩
        have hXl : X.length = 17 := by rw [hX]; exact length_adrV hxo
        have hYl : Y.length = 17 := by rw [hY]; exact length_adrV hyo
        have hzx := Lib.hid (show (Tryd.prog.info? 24).map (·.size) = some X.length by rw [size_adr, hXl])
        have hzx2 := Lib.hid (show (Tryd.prog.info? 24).map (·.size) = some X.toArray.size by rw [size_adr, List.size_toArray, hXl])
        have hzy := Lib.hid (show (Tryd.prog.info? 24).map (·.size) = some Y.length by rw [size_adr, hYl])
        have hzy2 := Lib.hid (show (Tryd.prog.info? 24).map (·.size) = some Y.toArray.size by rw [size_adr, List.size_toArray, hYl])
        have h17x := Lib.hid (show (17 : Nat) = X.toArray.size by rw [List.size_toArray, hXl])
        have h17y := Lib.hid (show (17 : Nat) = Y.toArray.size by rw [List.size_toArray, hYl])
        have hX1 := Lib.hid (show X.toArray.all (·.oneCell') = true from all_one (by rw [hX]; exact adrV_one _))
        have hY1 := Lib.hid (show Y.toArray.all (·.oneCell') = true from all_one (by rw [hY]; exact adrV_one _))
        have hEq : checkA x = true → ∀ w, (Op.equalIn 10000 24 (.agg Y.toArray) (.agg X.toArray)).run Tryd.prog w = .ok true w := by
          intro hc w
          rw [hY, hX, if_pos hc, eq_adr x x hxo hxo w]; simp
        rw [← hX] at htx hck hrg
        rw [← hY] at hpa
        clear hX hY hXl hYl hyo hxo hx
        have HE := Lib.hid hEq
        clear hEq
        generalize checkA x = c at *
        generalize bstr (textA x) = TX at *
        have hrg2 := Lib.hid hrg
        clear hrg
        obtain ⟨w6, rfl⟩ : ∃ x : World, x = wr := ⟨_, rfl⟩
        go_wp2_with (first
          | (with_reducible refine wpList_load_mid rfl 24 (.tmp 41) rfl gA (k * 17) rfl X _ hrg2.out Tryd.underlying24 rfl hzx.out ?_)
          | (refine wpList_store_row rfl 24 (.tmp 8) (.tmp 42) rfl w6.heap.size X.toArray rfl rfl 24 _ (heap_alloc_new w6 _) hzx2.out h17x.out hX1.out ?_; refine Hid.out ?_))
        refine Lib.hid ?_
        generalize hw7 : World.setRow _ _ _ = w7
        obtain ⟨r7, hb7'⟩ := row_new_set (xs := X) hw7
        have hE7 := hE5.next hb7'
        have hs7 := hs5.later (Nat.le_refl _) hb7'
        have g7 := g5.later hb7' g5.lt
        have hb7 := hb5.trans (hb7'.mono hb5.size)
        have HR7 := Lib.hid (show w7.heap[w6.heap.size]? = some (.cells X.toArray 24 (0, 0)) from r7)
        clear hw7 hb7' hs5 g5 hb5 hE5 hrg2
        go_wp2_with (first
          | (with_reducible refine wpList_load_row rfl 24 (.tmp 8) rfl w6.heap.size rfl 24 X.toArray (0, 0) _ HR7.out Tryd.underlying24 rfl hzx2.out ?_)
          | (go_at_call 10; have _t := HR7; refine (htx.out _ hE7).mono ?_; rintro e w8 ⟨rfl, hb8⟩; have hE8 := hE7.next hb8; have hs8 := hs7.later (Nat.le_refl _) hb8; have r8 := r7.later hb8 r7.lt; have g8 := g7.later hb8 g7.lt; have hb8 := hb7.trans (hb8.mono hb7.size); clear HR7 r7 hs7 g7 hb7 hE7)
          | (go_at_call 6; refine (hpa.out _ hE8).mono ?_; rintro e w9 ⟨rfl, hb9⟩; have hE9 := hE8.next hb9; have hs9 := hs8.later (Nat.le_refl _) hb9; have r9 := r8.later hb9 r8.lt; have g9 := g8.later hb9 g8.lt; have hb9 := hb8.trans (hb9.mono hb8.size); clear r8 hs8 g8 hb8 hE8)
          | (have _t := hE9; refine wpList_store_row rfl 24 (.tmp 9) (.tmp 47) rfl w9.heap.size Y.toArray rfl rfl 24 _ (heap_alloc_new w9 _) hzy2.out h17y.out hY1.out ?_; refine Hid.out ?_))
        refine Lib.hid ?_
        generalize hw10 : World.setRow _ _ _ = w10
        obtain ⟨y10, hb10'⟩ := row_new_set (xs := Y) hw10
        have hE10 := hE9.next hb10'
        have hs10 := hs9.later (Nat.le_refl _) hb10'
        have r10 := r9.later hb10' r9.lt
        have g10 := g9.later hb10' g9.lt
        have hb10 := hb9.trans (hb10'.mono hb9.size)
        have HR10 := Lib.hid (show w10.heap[w6.heap.size]? = some (.cells X.toArray 24 (0, 0)) from r10)
        clear hw10 hb10' hs9 g9 hb9 hE9 r9 hpa
        cases c with
        | true =>
          have hEq := HE.out rfl
          go_wp2_with (first
            | (with_reducible refine wpList_load_row rfl 24 (.tmp 8) rfl w6.heap.size rfl 24 X.toArray (0, 0) _ HR10.out Tryd.underlying24 rfl hzx2.out ?_)
            | (go_at_call 8; have _t := HR10; refine (hck.out _).mono ?_; rintro e w11 ⟨rfl, hb11⟩; have hE11 := hE10.next hb11; have hs11 := hs10.later (Nat.le_refl _) hb11; have r11 := r10.later hb11 r10.lt; have y11 := y10.later hb11 y10.lt; have g11 := g10.later hb11 g10.lt; have hb11 := hb10.trans (hb11.mono hb10.size); have HR11 := Lib.hid (show w11.heap[w6.heap.size]? = some (.cells X.toArray 24 (0, 0)) from r11); have HY11 := Lib.hid (show w11.heap[w9.heap.size]? = some (.cells Y.toArray 24 (0, 0)) from y11); clear HR10)
            | (refine wpList_step fun K hK => ?_; refine step_load_mid (some 56) rfl (by rfl) 24 (.tmp 9) rfl w9.heap.size 0 rfl Y _ (row_range (show Row _ w9.heap.size 24 Y from HY11.out)) Tryd.underlying24 rfl hzy.out ?_; refine hK _ _ ?_; clear hK)
            | (refine wpList_step fun K hK => ?_; refine step_load_mid (some 57) rfl (by rfl) 24 (.tmp 8) rfl w6.heap.size 0 rfl X _ (row_range (show Row _ w6.heap.size 24 X from HR11.out)) Tryd.underlying24 rfl hzx.out ?_; refine hK _ _ ?_; clear hK)
            | (refine wpList_step fun K hK => ?_; refine step_load_mid (some 62) rfl (by rfl) 24 (.tmp 8) rfl w6.heap.size 0 rfl X _ (row_range (show Row _ w6.heap.size 24 X from HR11.out)) Tryd.underlying24 rfl hzx.out ?_; refine hK _ _ ?_; clear hK)
            | (go_at_call 10; refine (htx.out _ hE11).mono ?_; rintro e w12 ⟨rfl, hb12⟩; have hE12 := hE11.next hb12; have hs12 := hs11.later (Nat.le_refl _) hb12; have g12 := g11.later hb12 g11.lt; have hb12 := hb11.trans (hb12.mono hb11.size)))
          go_roundw
          case rel => exact ⟨k + 1, by omega, by go_num, hE12, hs12, g12, hb12⟩
          case measure => simp [intOf]; omega
        | false =>
          clear HE
          go_wp2_with (first
            | (with_reducible refine wpList_load_row rfl 24 (.tmp 8) rfl w6.heap.size rfl 24 X.toArray (0, 0) _ HR10.out Tryd.underlying24 rfl hzx2.out ?_)
            | (go_at_call 8; have _t := HR10; refine (hck.out _).mono ?_; rintro e w11 ⟨rfl, hb11⟩; have hE11 := hE10.next hb11; have hs11 := hs10.later (Nat.le_refl _) hb11; have r11 := r10.later hb11 r10.lt; have g11 := g10.later hb11 g10.lt; have hb11 := hb10.trans (hb11.mono hb10.size); have HR11 := Lib.hid (show w11.heap[w6.heap.size]? = some (.cells X.toArray 24 (0, 0)) from r11); clear HR10)
            | (refine wpList_step fun K hK => ?_; refine step_load_mid (some 62) rfl (by rfl) 24 (.tmp 8) rfl w6.heap.size 0 rfl X _ (row_range (show Row _ w6.heap.size 24 X from HR11.out)) Tryd.underlying24 rfl hzx.out ?_; refine hK _ _ ?_; clear hK)
            | (go_at_call 10; refine (htx.out _ hE11).mono ?_; rintro e w12 ⟨rfl, hb12⟩; have hE12 := hE11.next hb12; have hs12 := hs11.later (Nat.le_refl _) hb12; have g12 := g11.later hb12 g11.lt; have hb12 := hb11.trans (hb12.mono hb11.size)))
          go_roundw
          case rel => exact ⟨k + 1, by omega, by go_num, hE12, hs12, g12, hb12⟩
          case measure => simp [intOf]; omega
      · obtain rfl : k = 3 := by omega
        have hok1 := sixA_ok l H8.out
        have hsix := Lib.hid (fun w' => asix_any l H8.out HM.out w')
        have hfl : ∀ w, (Instr.field 24 (.agg (adrV (sixA l)).toArray) 1).run Tryd.prog w = .ok (.agg (byts (sixA l).b).toArray) w := field_b (sixA l) hok1
        rw [← HH.out, ← HX1.out] at hsix
        rw [← HX1.out] at hfl
        have hIx : ∀ k : Nat, k < 8 → ∀ w, (Instr.index 32 (.agg H.toArray) (.int .i64 k)).run Tryd.prog w = .ok (.int .u16 (l.getD k 0 : Nat)) w := by
          rw [HH.out]; exact fun k hk w => idx_agg l H8.out k hk w
        have hBx : ∀ k : Nat, k < 8 → (byts (sixA l).b)[2 * k]? = some (.int .u8 (((l.getD k 0 : Nat) : Int) / 256)) ∧ (byts (sixA l).b)[2 * k + 1]? = some (.int .u8 (((l.getD k 0 : Nat) : Int) % 256)) := fun k hk => six_cells l H8.out HM.out k hk
        obtain ⟨B, hB⟩ : ∃ B, B = byts (sixA l).b := ⟨_, rfl⟩
        have hBl : B.length = 16 := by rw [hB, length_byts]; exact hok1
        rw [← hB] at hfl hBx
        have hzB := Lib.hid (show (Tryd.prog.info? 22).map (·.size) = some B.toArray.size by rw [List.size_toArray, hBl]; kernel_rfl)
        have h16B := Lib.hid (show (16 : Nat) = B.toArray.size by rw [List.size_toArray, hBl])
        have hB1 := Lib.hid (show B.toArray.all (·.oneCell') = true from all_one (by rw [hB]; exact byts_one _))
        have hzH2 := Lib.hid (show (Tryd.prog.info? 32).map (·.size) = some H.toArray.size by rw [List.size_toArray]; exact hzH.out)
        have HFL := Lib.hid hfl
        have HI := Lib.hid hIx
        have HB := Lib.hid hBx
        clear hIx hBx hfl hB hBl hok1 hs5 HO H3 hzH HX1 hV117
        obtain ⟨w6, rfl⟩ : ∃ x : World, x = wr := ⟨_, rfl⟩
        have HG5 := Lib.hid (show w6.heap[w.heap.size + 1]? = some (.cells H.toArray 32 (0, 0)) from g5)
        go_wp2_with (with_reducible refine wpList_load_row rfl 32 (.tmp 4) rfl (w.heap.size + 1) rfl 32 H.toArray (0, 0) _ HG5.out Tryd.underlying32 rfl hzH2.out ?_)
        clear HG5
        go_loopw [69] (fun i wr => ∃ k : Nat, k ≤ 8 ∧ i = .int .i64 k ∧ Env wr ∧ Row wr (w.heap.size + 1) 32 H ∧ Below w.heap.size w wr) (fun i _ => 8 - (intOf i).toNat)
        case atStart => exact ⟨0, by omega, rfl, hE5, g5, hb5⟩
        case round =>
          clear hE5 g5 hb5
          obtain ⟨k, hk, rfl, hE5, g5, hb5⟩ := hrel
          by_cases hlt : k < 8
          · have hlt' : (k : Int) < 8 := by omega
            have hix := HI.out k hlt
            obtain ⟨hB2, hB3⟩ := HB.out k hlt
            have HB2 := Lib.hid hB2
            have HB3 := Lib.hid hB3
            clear hB2 hB3
            have hn : l.getD k 0 ≤ 65535 := HM.out _ (by rw [List.getD_eq_getElem?_getD, List.getElem?_eq_getElem (by rw [H8.out]; exact hlt)]; exact List.getElem_mem _)
            generalize l.getD k 0 = n at *
            have hn' : (n : Int) ≤ 65535 := by omega
            have hI0 : IntKind.i64.wrap (2 * (k : Int)) = 2 * (k : Int) := by rw [IntKind.wrap_i64]; omega
            have hI1 : (0 : Int) ≤ 2 * (k : Int) := by omega
            have hI2 : 2 * (k : Int) < 16 := by omega
            have hI3 : (2 * (k : Int)).toNat = 2 * k := by omega
            have hJ0 : IntKind.i64.wrap (2 * (k : Int) + 1) = 2 * (k : Int) + 1 := by rw [IntKind.wrap_i64]; omega
            have hJ1 : (0 : Int) ≤ 2 * (k : Int) + 1 := by omega
            have hJ2 : 2 * (k : Int) + 1 < 16 := by omega
            have hJ3 : (2 * (k : Int) + 1).toNat = 2 * k + 1 := by omega
            have hfl := HFL.out
            obtain ⟨w7, rfl⟩ : ∃ x : World, x = wr := ⟨_, rfl⟩
            have HG7 := Lib.hid (show w7.heap[w.heap.size + 1]? = some (.cells H.toArray 32 (0, 0)) from g5)
            go_wp2_with (first
              | (with_reducible refine wpList_load_row rfl 32 (.tmp 4) rfl (w.heap.size + 1) rfl 32 H.toArray (0, 0) _ HG7.out Tryd.underlying32 rfl hzH2.out ?_)
              | (go_at_call 12; refine (hsix.out _).mono ?_; rintro e w8 ⟨rfl, hb8⟩; have hE8 := hE5.next hb8; have g8 := g5.later hb8 g5.lt; have hb8 := hb5.trans (hb8.mono hb5.size))
              | (have _t := hE8; refine wpList_store_row rfl 22 (.tmp 13) (.tmp 75) rfl w8.heap.size B.toArray rfl rfl 22 _ (heap_alloc_new w8 _) hzB.out h16B.out hB1.out ?_; refine Hid.out ?_))
            refine Lib.hid ?_
            generalize hw9 : World.setRow _ _ _ = w9
            obtain ⟨r9, hb9'⟩ := row_new_set (xs := B) hw9
            have hE9 := hE8.next hb9'
            have g9 := g8.later hb9' g8.lt
            have hb9 := hb8.trans (hb9'.mono hb8.size)
            have hc1 := (r9.cell (2 * k)).trans HB2.out
            have hc2 := (r9.cell (2 * k + 1)).trans HB3.out
            clear hw9 hb9' g5 hb5 hE5 hE8 g8 hb8 HG7
            go_wp2
            go_roundw
            case rel => exact ⟨k + 1, by omega, by go_num, hE9, g9, hb9⟩
            case measure => simp [intOf]; omega
          · obtain rfl : k = 8 := by omega
            clear HI HB HFL hsix
            obtain ⟨w7, rfl⟩ : ∃ x : World, x = wr := ⟨_, rfl⟩
            have hpa := Lib.hid (aparse_any s (by omega) w7 hE5)
            cases hp : parseL s with
            | none =>
              rw [hp] at hpa
              obtain ⟨Z, hZ⟩ : ∃ Z, Z = adrV zeroA := ⟨_, rfl⟩
              have hZl : Z.length = 17 := by rw [hZ]; exact length_adrV zeroA_ok
              rw [show parsV none = .tuple #[.agg Z.toArray, .bool false] by rw [hZ]; rfl] at hpa
              have hEz : ∀ w, (Op.equalIn 10000 24 (.agg Z.toArray) (.agg #[.bool false, .int .u8 0, .int .u8 0, .int .u8 0, .int .u8 0, .int .u8 0, .int .u8 0, .int .u8 0, .int .u8 0, .int .u8 0, .int .u8 0, .int .u8 0, .int .u8 0, .int .u8 0, .int .u8 0, .int .u8 0, .int .u8 0])).run Tryd.prog w = .ok true w := by
                intro w
                have := eq_adr zeroA zeroA zeroA_ok zeroA_ok w
                rw [hZ]
                exact this.trans (by simp)
              have hzZ := Lib.hid (show (Tryd.prog.info? 24).map (·.size) = some Z.length by rw [size_adr, hZl])
              have hzZ2 := Lib.hid (show (Tryd.prog.info? 24).map (·.size) = some Z.toArray.size by rw [size_adr, List.size_toArray, hZl])
              have h17Z := Lib.hid (show (17 : Nat) = Z.toArray.size by rw [List.size_toArray, hZl])
              have hZ1 := Lib.hid (show Z.toArray.all (·.oneCell') = true from all_one (by rw [hZ]; exact adrV_one _))
              clear hZ hZl hp
              go_wp2_with (first
                | (go_at_call 6; refine hpa.out.mono ?_; rintro e w8 ⟨rfl, hb8⟩; have hb8 := hb5.trans (hb8.mono hb5.size))
                | (have _t := hb8; refine wpList_store_row rfl 24 (.tmp 14) (.tmp 99) rfl w8.heap.size Z.toArray rfl rfl 24 _ (heap_alloc_new w8 _) hzZ2.out h17Z.out hZ1.out ?_; refine Hid.out ?_))
              refine Lib.hid ?_
              generalize hw9 : World.setRow _ _ _ = w9
              obtain ⟨r9, hb9'⟩ := row_new_set (xs := Z) hw9
              have hb9 := hb8.trans (hb9'.mono hb8.size)
              have HR9 := Lib.hid (show w9.heap[w8.heap.size]? = some (.cells Z.toArray 24 (0, 0)) from r9)
              clear hw9 hb9' r9
              go_wp2_with (refine wpList_step fun K hK => ?_; refine step_load_mid (some 104) rfl (by rfl) 24 (.tmp 14) rfl w8.heap.size 0 rfl Z _ (row_range (show Row w9 w8.heap.size 24 Z from HR9.out)) Tryd.underlying24 rfl hzZ.out ?_; refine hK _ _ ?_; clear hK)
              go_ret
              exact ⟨rfl, hb9⟩
            | some x =>
              rw [hp] at hpa
              obtain ⟨hxo, -, hxs⟩ := (parseL_iff s x).1 hp
              have htx := Lib.hid (fun w' hE => atext_any x hxo w' hE)
              rw [hxs] at htx
              obtain ⟨X, hX⟩ : ∃ X, X = adrV x := ⟨_, rfl⟩
              have hXl : X.length = 17 := by rw [hX]; exact length_adrV hxo
              rw [show parsV (some x) = .tuple #[.agg X.toArray, .bool true] by rw [hX]; rfl] at hpa
              rw [← hX] at htx
              have hzX := Lib.hid (show (Tryd.prog.info? 24).map (·.size) = some X.length by rw [size_adr, hXl])
              have hzX2 := Lib.hid (show (Tryd.prog.info? 24).map (·.size) = some X.toArray.size by rw [size_adr, List.size_toArray, hXl])
              have h17X := Lib.hid (show (17 : Nat) = X.toArray.size by rw [List.size_toArray, hXl])
              have hX1 := Lib.hid (show X.toArray.all (·.oneCell') = true from all_one (by rw [hX]; exact adrV_one _))
              clear hX hXl hp hxs hxo
              go_wp2_with (first
                | (go_at_call 6; refine hpa.out.mono ?_; rintro e w8 ⟨rfl, hb8⟩; have hE8 := hE5.next hb8; have hb8 := hb5.trans (hb8.mono hb5.size))
                | (have _t := hb8; refine wpList_store_row rfl 24 (.tmp 14) (.tmp 99) rfl w8.heap.size X.toArray rfl rfl 24 _ (heap_alloc_new w8 _) hzX2.out h17X.out hX1.out ?_; refine Hid.out ?_))
              refine Lib.hid ?_
              generalize hw9 : World.setRow _ _ _ = w9
              obtain ⟨r9, hb9'⟩ := row_new_set (xs := X) hw9
              have hE9 := hE8.next hb9'
              have hb9 := hb8.trans (hb9'.mono hb8.size)
              have HR9 := Lib.hid (show w9.heap[w8.heap.size]? = some (.cells X.toArray 24 (0, 0)) from r9)
              clear hw9 hb9' r9
              go_wp2_with (first
                | (refine wpList_step fun K hK => ?_; refine step_load_mid (some 111) rfl (by rfl) 24 (.tmp 14) rfl w8.heap.size 0 rfl X _ (row_range (show Row w9 w8.heap.size 24 X from HR9.out)) Tryd.underlying24 rfl hzX.out ?_; refine hK _ _ ?_; clear hK)
                | (go_at_call 10; refine (htx.out _ hE9).mono ?_; rintro e w10 ⟨rfl, hb10⟩; have hb10 := hb9.trans (hb10.mono hb9.size)))
              go_ret
              exact ⟨rfl, hb10⟩
end Go.Proofs.YtpmibdgghojgaaaDoor

/- LAYER 12's cards: what the library's listed variables hold; a world for the witness; an address as an argument. -/
namespace Go.Proofs.YtpmibdgghojgaaaDoor
open Go Go.ChangeShapes Go.WideShapes Go.ChangeAt Go.RowKit
set_option maxRecDepth 100000

theorem shape_most {W : World} (h : W.ShapedOpen Tryd.prog) : ∃ m, W.cell? ⟨0, 0, none⟩ = some (.int .i64 m) :=
  Go.Proofs.cell_of_shapedOpen_int (zero := #[.int .i64 0]) (t := 3) h (of_decide_eq_true (by kernel_rfl)) (by kernel_rfl) rfl (by kernel_rfl) (by kernel_rfl) Tryd.underlying3
theorem g64 : Tryd.prog.globalNamed "math/bits.deBruijn64tab" = some 7 := by kernel_rfl
theorem gSyn : Tryd.prog.globalNamed "strconv.ErrSyntax" = some 2 := by kernel_rfl
theorem gRng : Tryd.prog.globalNamed "strconv.ErrRange" = some 3 := by kernel_rfl
def bruijn64 : List Int := [0, 1, 56, 2, 57, 49, 28, 3, 61, 58, 42, 50, 38, 29, 17, 4, 62, 47, 59, 36, 45, 43, 51, 22, 53, 39, 33, 30, 24, 18, 12, 5, 63, 55, 48, 27, 60, 41, 37, 16, 46, 35, 44, 21, 52, 32, 23, 11, 54, 26, 40, 15, 34, 20, 31, 10, 25, 14, 19, 9, 13, 8, 7, 6]
theorem star_es : "*" ++ "errors.errorString" = "*errors.errorString" := by decide
theorem type_string_ptr : ∀ u, Tryd.prog.typeName? 3 u = some "*errors.errorString" → u = 118 := fun u h =>
  typeName_ptr_named (nm := "errors.errorString") (by rw [star_es]; kernel_rfl) (by kernel_rfl) (by decide) u (by rw [star_es]; exact h)
/-- What the listed variables hold, as far as package addr comes to them. -/
theorem env_of {W : World} (h : laidMet Tryd.prog Rows.addrTellsRow.laid W) (hs : W.ShapedOpen Tryd.prog) : Env W := by
  have h1 := laidMet.tail h
  have h2 := laidMet.tail h1
  have h4 := laidMet.tail (laidMet.tail h2)
  have h5 := laidMet.tail h4
  have t64 : Lib.TabIs Tryd.prog W "math/bits.deBruijn64tab" .u8 bruijn64 := Lib.tabIs_of_head (zs := bruijn64) g64 (t := 122) (by kernel_rfl) Tryd.underlying122 Tryd.underlying5 (by kernel_rfl) (by kernel_rfl) h1
  have tPow : Lib.TabIs Tryd.prog W "internal/strconv.uint64pow10" .u64 Lib.pow10Tab := Lib.tabIs_of_head (zs := Lib.pow10Tab) gPow (t := 99) (by kernel_rfl) Tryd.underlying99 Tryd.underlying60 (by kernel_rfl) (by kernel_rfl) h2
  obtain ⟨aR, sR, hR, -⟩ := laid_sentinel h4 gRng (by kernel_rfl) Tryd.underlying69 type_string_ptr Tryd.underlying118 Tryd.underlying120 rfl rfl Tryd.underlying9 (by kernel_rfl) (by kernel_rfl)
  obtain ⟨aS, sS, hS, -⟩ := laid_sentinel h5 gSyn (by kernel_rfl) Tryd.underlying69 type_string_ptr Tryd.underlying118 Tryd.underlying120 rfl rfl Tryd.underlying9 (by kernel_rfl) (by kernel_rfl)
  refine ⟨shape_most hs, tPow, t64.cell g64 15 (by decide), ⟨_, by simpa using World.var?_cell gSyn hS 0, .inr ⟨_, _, rfl⟩⟩, ⟨_, by simpa using World.var?_cell gRng hR 0, .inr ⟨_, _, rfl⟩⟩⟩
/-! One start that fits: the library's tables and sentinels as their initialisers lay them. -/
def setCells12 (cs : List Value) : Obj → Obj
  | .cells _ t frozen => .cells cs.toArray t frozen
  | o => o
def bruijn32 : List Int := [0, 1, 28, 2, 29, 14, 24, 3, 30, 22, 20, 15, 25, 17, 4, 8, 31, 27, 13, 23, 21, 19, 16, 7, 26, 12, 18, 6, 11, 5, 10, 9]
def accept32 : List Int := [128, 191, 160, 191, 128, 159, 144, 191, 128, 143] ++ List.replicate 22 0
def synS : ByteArray := { data := #[105, 110, 118, 97, 108, 105, 100, 32, 115, 121, 110, 116, 97, 120] }
def rngS : ByteArray := { data := #[118, 97, 108, 117, 101, 32, 111, 117, 116, 32, 111, 102, 32, 114, 97, 110, 103, 101] }
/-- So many blocks has the settled world. -/
noncomputable def low12 : Nat := (World.holding Tryd.prog default ⟨#[], #[], []⟩).heap.size
noncomputable def libWorld (os : Os) : World :=
  let w0 := World.holding Tryd.prog os ⟨#[.cells #[.string rngS] 120, .cells #[.string synS] 120], #[], []⟩
  { w0 with heap := ((((((w0.heap.modify 6 (setCells12 (bruijn32.map (Value.int .u8)))).modify 7 (setCells12 (bruijn64.map (Value.int .u8)))).modify 1 (setCells12 (Lib.pow10Tab.map (Value.int .u64)))).modify
      5 (setCells12 (accept32.map (Value.int .u8)))).modify 4 (setCells12 (Go.Pinned.utf8FirstZ.map fun n : Nat => Value.int .u8 (n : Int)))).modify
      3 (setCells12 [.iface 118 (.pointer (some ⟨low12, 0, none⟩))])).modify 2 (setCells12 [.iface 118 (.pointer (some ⟨low12 + 1, 0, none⟩))]) }
theorem lib_met (os : Os) (args : Array Value) : laidMet Tryd.prog Rows.addrTellsRow.laid ((libWorld os).forCall (fun _ _ => 0) ⟨#[], args, []⟩).memory :=
  laidMet_of_run' 8 (by kernel_rfl) (by kernel_rfl)
/-- An argument that is an address. -/
theorem open_adr {W : World} {r : Reach} {b0 : Nat} {v : Value} (hv : Value.okWide Tryd.prog W r b0 24 v) : ∃ a : Adr, a.Ok ∧ v = .agg (adrV a).toArray := by
  simp only [Value.okWide, Tryd.underlying24] at hv
  obtain ⟨cs, rfl, hsz, hrow⟩ := hv
  have h17 : cs.size = 17 := by rw [hsz]; kernel_rfl
  obtain ⟨ts, hts, -, hall⟩ := hrow
  have e : Tryd.prog.cellTypes Tryd.prog.depth 24 = some (4 :: List.replicate 16 5) := by kernel_rfl
  rw [e] at hts
  cases hts
  have hlen : (4 :: List.replicate 16 5).length = 17 := rfl
  have h0 : ∃ b, cs[0]? = some (.bool b) := by
    obtain ⟨u, hu, hc⟩ := hall 0 cs[0] (by simp [h17])
    rw [hlen] at hu
    cases hu
    unfold Cell.okWide Cell.ok at hc
    simp only [Tryd.underlying4] at hc
    cases hv : cs[0] <;> rw [hv] at hc <;> simp at hc
    rename_i bb
    exact ⟨bb, by simp [h17, hv]⟩
  have hb : ∀ i, 1 ≤ i → i < 17 → ∃ x : UInt8, cs[i]? = some (.int .u8 (x.toNat : Int)) := by
    intro i h1 h2
    obtain ⟨u, hu, hc⟩ := hall i (cs[i]'(by omega)) (by simp [h17, h2])
    rw [hlen, Nat.mod_eq_of_lt h2] at hu
    have hu8 : u = 5 := by
      obtain ⟨j, rfl⟩ : ∃ j, i = j + 1 := ⟨i - 1, by omega⟩
      rw [List.getElem?_cons_succ, List.getElem?_replicate, if_pos (by omega)] at hu
      exact (Option.some.inj hu).symm
    subst hu8
    unfold Cell.okWide Cell.ok at hc
    simp only [Tryd.underlying5] at hc
    cases hv : cs[i]'(by omega) <;> rw [hv] at hc <;> simp at hc
    rename_i k z
    obtain ⟨rfl, hz⟩ := hc
    have hz0 : 0 ≤ z ∧ z ≤ 255 := by
      have h := hz
      unfold IntKind.has at h
      exact ⟨h.1, h.2⟩
    refine ⟨UInt8.ofNat z.toNat, ?_⟩
    rw [Array.getElem?_eq_getElem (by omega), hv, UInt8.toNat_ofNat']
    congr 2
    omega
  obtain ⟨b0, e0⟩ := h0
  let l : List UInt8 := (List.range 16).map fun i => if h : 1 ≤ i + 1 ∧ i + 1 < 17 then Classical.choose (hb (i + 1) h.1 h.2) else 0
  refine ⟨⟨b0, l⟩, by show l.length = 16; simp [l], ?_⟩
  congr 1
  apply Array.ext_getElem?
  intro i
  cases i with
  | zero => exact e0
  | succ i =>
    have e2 : (adrV ⟨b0, l⟩).toArray[i + 1]? = (byts l)[i]? := by rw [List.getElem?_toArray]; rfl
    rw [e2]
    by_cases hi : i < 16
    · have hx := Classical.choose_spec (hb (i + 1) (by omega) (by omega))
      rw [hx, get_byts l i (by simp [l]; exact hi)]
      congr 3
      simp [l, hi]
      rw [dif_pos (by omega)]
    · rw [Array.getElem?_eq_none (by omega), List.getElem?_eq_none (by rw [length_byts]; simp [l]; omega)]
theorem hw_of_ints (zs : List Int) (h : ∀ j, j < zs.length → 0 ≤ zs.getD j 0 ∧ zs.getD j 0 ≤ 65535) : ∃ l : List Nat, l.length = zs.length ∧ (∀ n ∈ l, n ≤ 65535) ∧ zs.map (Value.int .u16) = hwV l := by
  induction zs with
  | nil => exact ⟨[], rfl, (fun n hn => by cases hn), rfl⟩
  | cons z zs ih =>
    have h0 := h 0 (by simp)
    obtain ⟨l, h1, h2, h3⟩ := ih (fun j hj => by simpa using h (j + 1) (by simpa using hj))
    simp only [List.getD_cons_zero] at h0
    refine ⟨z.toNat :: l, by simp [h1], fun n hn => ?_, ?_⟩
    · rcases List.mem_cons.1 hn with rfl | hn
      · omega
      · exact h2 n hn
    · show Value.int .u16 z :: zs.map (Value.int .u16) = Value.int .u16 (z.toNat : Int) :: hwV l
      rw [h3]
      congr 2
      omega
end Go.Proofs.YtpmibdgghojgaaaDoor

namespace Go.Proofs.YtpmibdgghojgaaaDoor.addrBack
open Go.ChangeShapes Go.WideShapes Go.ChangeAt Go.RowKit

set_option maxRecDepth 100000 in
theorem contract (H : Type) (enc : TypeId × Value → H) (W : World) (base : Nat) (args : Array Value) (ds gs : List (DataW H)) (before : List MemPlace)
    (hval : ∀ (j : Nat) t v, Tryd.f4.params[j]? = some t → args[j]? = some v → Value.okWide Tryd.prog W .any base t v)
    (hW : DataW.Whole enc Tryd.prog Tryd.f4.params.toList Rows.addrBackSpec.vars false W args.toList ds gs before) (hL : laidMetH Tryd.prog Rows.addrBackRow.laid W) (hSh : W.ShapedOpen Tryd.prog) :
    Calls Tryd.prog 4 args W fun e W' => ∃ v, e = .returned v ∧ Rows.addrBackSpec.post enc Tryd.prog Tryd.f4 false true false false W args v W' := by
  have hW' := hW
  obtain ⟨p, q, hA0, hV, rfl, hfz, hnd⟩ := hW
  have hA : DataW.TrodAll enc Tryd.prog W 0 (fun _ => true) true Tryd.f4.params.toList args.toList ds p := hA0
  rw [Tryd.params4] at hA hval
  obtain ⟨v0, vs0, d0, ds0, p0, q0, hargs, rfl, rfl, h0, r0⟩ := trodAll_cons hA
  obtain ⟨v1, vs1, d1, ds1, p1, q1, rfl, rfl, rfl, h1, r1⟩ := trodAll_cons r0
  obtain ⟨v2, vs2, d2, ds2, p2, q2, rfl, rfl, rfl, h2, r2⟩ := trodAll_cons r1
  obtain ⟨rfl, rfl, rfl⟩ := trodAll_nil r2
  obtain rfl : args = #[v0, v1, v2] := by cases args; simp_all
  obtain ⟨rfl, rfl⟩ := trodVars_none hV
  have hT := env_of hL hSh
  have k0 := h0
  have lt0 : ∀ x ∈ p0, x.block < W.heap.size := by obtain ⟨m, hm⟩ := k0; exact DataW.trod_lt m _ _ _ hm
  have k1 := h1
  have lt1 : ∀ x ∈ p1, x.block < W.heap.size := by obtain ⟨m, hm⟩ := k1; exact DataW.trod_lt m _ _ _ hm
  have k2 := h2
  have lt2 : ∀ x ∈ p2, x.block < W.heap.size := by obtain ⟨m, hm⟩ := k2; exact DataW.trod_lt m _ _ _ hm
  obtain ⟨a0, ha0, rfl⟩ := open_adr (hval 0 24 v0 rfl rfl)
  obtain ⟨zs1, hz1, rfl, wz1⟩ := open_intArray Tryd.underlying32 Tryd.underlying31 (by kernel_rfl) (by kernel_rfl) (hval 1 32 v1 rfl rfl) h1
  obtain ⟨l1, hl1, hm1, e1⟩ := hw_of_ints zs1 (fun j hj => bounds_u16 (wz1 j (by omega)))
  rw [hz1] at hl1
  rw [e1] at k1 hW' ⊢
  obtain ⟨s2, rfl, rfl, rfl, hs2⟩ := Go.ChangeMaps.open_string Tryd.underlying9 (hval 2 9 v2 rfl rfl) h2
  obtain ⟨l2, rfl⟩ := bytes_str s2
  refine (aback_walk a0 ha0 l1 hl1 hm1 l2 W hT).mono fun e W' ⟨he, bel⟩ => ?_
  subst he
  exact ⟨_, rfl, _, _, _, [], _, [], hW', trodAll_mk1 (shut_bool Tryd.underlying4 _), (trodAll_cons_mk (Below.trod laidOut (by kernel_rfl) (of_decide_eq_true (by kernel_rfl)) k0 bel lt0) (trodAll_cons_mk (Below.trod laidOut (by kernel_rfl) (of_decide_eq_true (by kernel_rfl)) k1 bel lt1) (trodAll_cons_mk (Below.trod laidOut (by kernel_rfl) (of_decide_eq_true (by kernel_rfl)) k2 bel lt2) trodAll_mk0))), rfl, bel.frame _, fun h => by cases h⟩
theorem laid_met (os : Os) : laidMet Tryd.prog Rows.addrBackRow.laid ((libWorld os).forCall (fun _ _ => 0) ⟨#[], #[.agg (adrV zeroA).toArray, .agg (Array.replicate 8 (.int .u16 0)), .string { data := #[] }], []⟩).memory :=
  lib_met os _
theorem reads (os : Os) {H : Type} (enc : TypeId × Value → H) : ∃ places, DataW.whole enc Tryd.prog ((libWorld os).forCall (fun _ _ => 0) ⟨#[], #[.agg (adrV zeroA).toArray, .agg (Array.replicate 8 (.int .u16 0)), .string { data := #[] }], []⟩).memory Tryd.f4.params.toList Rows.addrBackSpec.vars false (#[.agg (adrV zeroA).toArray, .agg (Array.replicate 8 (.int .u16 0)), .string { data := #[] }] : Array Value).toList 8 = some ([.agg [.lit (.bool false), .agg (List.replicate 16 (.lit (.int .u8 0)))], .agg (List.replicate 8 (.lit (.int .u16 0))), .lit (.string [])], [], places) :=
  ⟨[], by kernel_rfl⟩
set_option maxRecDepth 100000 in
theorem lifted (os : Os) (started : os.Started) (H : Type) (enc : TypeId × Value → H) (F : Stop.Interp) :
    ReturnsInHanded {} Tryd.checked os 4 .any ((OpenSpec.ofChange Rows.addrBackSpec).preRow enc Tryd.prog Tryd.f4 Rows.addrBackRow.domain false Rows.addrBackRow.laid) (((OpenSpec.ofChange Rows.addrBackSpec).at F).post enc Tryd.prog Tryd.f4 false true false false) := by
  obtain ⟨places, hx⟩ := reads os enc
  refine returnsInHanded_of_row (C := Tryd.checked) (s := OpenSpec.ofChange Rows.addrBackSpec) own started (by kernel_rfl) Tryd.func4
    (witness_row_at (enc := enc) (C := Tryd.checked) false (libWorld os) #[.agg (adrV zeroA).toArray, .agg (Array.replicate 8 (.int .u16 0)), .string { data := #[] }] rfl (by kernel_rfl) (by kernel_rfl) (by kernel_rfl)
      (OpenSpec.preRow_of_cond 8 hx (by kernel_rfl) (fun k hk => by cases hk) (by kernel_rfl) (laid_met os))) ?_
  intro W base args ds gs before hval hW _ _ _ hL hSh _
  exact contract H enc W base args ds gs before hval hW hL hSh
theorem said : Rows.AddrBackSaid :=
  OpenClaim.holds_of_cond 4 Tryd.f4 rfl rfl rfl rfl rfl rfl rfl ⟨rfl, rfl, rfl, rfl, rfl⟩ rfl rfl rfl rfl rfl (by kernel_rfl) Tryd.func4 (by kernel_rfl)
    (of_decide_eq_true (by kernel_rfl)) (by unfold Func.isWrapper; first | (rw [if_pos (by decide +kernel)]; kernel_rfl) | (rw [if_neg (by decide +kernel)]; exact ⟨rfl, rfl⟩))
    (fun os started H enc _ F => by rw [OpenClaim.pre_eq_preRow]; exact lifted os started H enc F)
/-- No parameter wants a stand-in; the program's own looks are off. -/
theorem plain (f : FuncId) (fn : Func) (hf : Tryd.pinned.checked.prog.funcNamed "chitty/chittylaw12.AddrBack" = some f) (hfn : Tryd.pinned.checked.prog.funcs[f]? = some fn) :
    true = Tryd.pinned.checked.prog.looks [] ∧ ∀ (j : Nat) t, fn.params[j]? = some t → Tryd.pinned.checked.prog.wantsStandIn t = false := by
  obtain rfl : f = 4 := Option.some.inj ((show Tryd.prog.funcNamed "chitty/chittylaw12.AddrBack" = some 4 by kernel_rfl).symm.trans hf) |>.symm
  obtain rfl : fn = Tryd.f4 := (Option.some.inj (Tryd.func4.symm.trans hfn)).symm
  refine ⟨by kernel_rfl, fun j t ht => ?_⟩
  rw [Tryd.params4] at ht
  have hm := Array.mem_of_getElem? ht
  simp only [List.mem_toArray, List.mem_cons, List.not_mem_nil, or_false] at hm
  rcases hm with rfl | rfl | rfl
  · exact (show Tryd.prog.wantsStandIn 24 = false by kernel_rfl)
  · exact (show Tryd.prog.wantsStandIn 32 = false by kernel_rfl)
  · exact (show Tryd.prog.wantsStandIn 9 = false by kernel_rfl)
theorem card : Rows.AddrBackCardSaid :=
  Claim7.holds_tied_plain_at .later [] _ _ _ _ said (fun _ h => by cases h) (by kernel_rfl) (fun _ h => by cases h) addrBack_row_tie rfl ⟨rfl, rfl⟩ (by kernel_rfl) rfl plain (by kernel_rfl)
end Go.Proofs.YtpmibdgghojgaaaDoor.addrBack
