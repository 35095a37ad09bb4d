/- Texts of this claim, one behind the other. -/
import Derived.Test.YtgnhmpfoddfpdaaGreatDoorRaav
import Derived.Test.YtgnhmpfoddfpdaaGreatDoorRaae
import Derived.Great.BuildSlice
import Derived.Test.YtgnhmpfoddfpdaaGreatDoorRaat
/- LAYER 17: predicates built, and rows of them. -/
namespace Go.Proofs.YtgnhmpfoddfpdaaGreatDoor
set_option maxRecDepth 100000
open Go Go.RowKit

theorem prdV_one (p : Prd) (A : Option Addr) (c : Nat) : (prdV p A c).toArray.all (·.oneCell') = true := by
  have h := rngV_one' p.net
  rw [List.all_toArray] at h ⊢
  unfold prdV
  rw [List.all_append, List.all_append, h]; rfl
theorem prd_zero : prdV zeroP none 0 = [Value.int .i64 0, .int .u64 0, .slice none 0 0, .string { data := #[] }, .bool false, .int .u8 0, .int .u8 0, .int .u8 0, .int .u8 0, .int .u8 0, .int .u8 0, .int .u8 0, .int .u8 0, .int .u8 0, .int .u8 0, .int .u8 0, .int .u8 0, .int .u8 0, .int .u8 0, .int .u8 0, .int .u8 0, .int .i64 0, .float .f64 0] := rfl
theorem index_prd (A : Option Addr) (b o n c k : Nat) (hA : A = some ⟨b, o, none⟩) (hk : k < n) (w : World) :
    (Instr.indexAt 49 (.slice A n c) (.int .i64 k)).run Tryz.prog w = .ok (.pointer (some ⟨b, o + k * 23, none⟩)) w := by
  subst hA
  have h : (k : Int) < (n : Int) := by omega
  go_simp
theorem wpList_sliceN {P : Program} {w w' : World} {ops : Array Oper} {rest : List Oper} {o : Oper} {a : Act} {Q : Exit → Act → World → Prop} (hgd : o.guard = none) (ty : TypeId) (n : Nat) (parts : List (Nat × Operand)) (ho : o.op = .buildSlice ty n parts.toArray) (vals : List (Nat × Value)) (hx : parts.map (fun p => (p.1, a.eval p.2)) = vals) (v : Value)
    (hv : (Instr.buildSlice ty n vals.toArray).run P w = .ok v w') (h : wpList P ops Q rest (a.put o.dst v) w') : wpList P ops Q (o :: rest) a w := by
  refine wpList_plain hgd fun _ hK => ?_
  subst hx
  unfold Oper.wp execOp
  simp only [ho, Sem.run_bind, Sem.run_pure, Result.andThen_ok, List.map_toArray, hv]
  exact hK _ _ h
theorem build_1 (n : Nat) (k : Int) (w : World) : (Instr.build 31 #[(0, .int .i64 k), (1, .int .u64 n)]).run Tryz.prog w = .ok (.agg (prdV ⟨k, n, [], [], zeroR, 0⟩ none 0).toArray) w := by
  go_simp
  rfl
theorem build_3 (A : Option Addr) (l : List (List UInt8)) (c : Nat) (w : World) : (Instr.build 31 #[(0, .int .i64 3), (2, .slice A l.length c)]).run Tryz.prog w = .ok (.agg (prdV ⟨3, 0, l, [], zeroR, 0⟩ A c).toArray) w := by
  go_simp
  rfl
theorem build_4 (b : List UInt8) (w : World) : (Instr.build 31 #[(0, .int .i64 4), (3, .string (bstr b))]).run Tryz.prog w = .ok (.agg (prdV ⟨4, 0, [], b, zeroR, 0⟩ none 0).toArray) w := by
  go_simp
  rfl
theorem build_6 (c : Nat) (w : World) : (Instr.build 31 #[(0, .int .i64 6), (5, .float .f64 c)]).run Tryz.prog w = .ok (.agg (prdV ⟨6, 0, [], [], zeroR, c⟩ none 0).toArray) w := by
  go_simp
  rfl
theorem fold_off (V : List Value) (off : Nat) : ∀ (k : Nat) (Z : Array Value), (V.zipIdx k).foldl (fun cs x => cs.setIfInBounds (off + x.2) x.1) Z = (V.zipIdx (off + k)).foldl (fun cs x => cs.setIfInBounds x.2 x.1) Z := by
  induction V with
  | nil => intro k Z; rfl
  | cons v V ih =>
    intro k Z
    rw [List.zipIdx_cons, List.zipIdx_cons, List.foldl_cons, List.foldl_cons]
    exact ih (k + 1) _
set_option maxHeartbeats 2000000 in
theorem build_5 (V : List Value) (h : V.length = 18) (w : World) : (Instr.build 31 #[(0, .int .i64 5), (4, .agg V.toArray)]).run Tryz.prog w = .ok (.agg ([Value.int .i64 5, .int .u64 0, .slice none 0 0, .string { data := #[] }] ++ (V ++ [Value.float .f64 0])).toArray) w := by
  have hz := set_zip13 V 4 [Value.int .i64 5, .int .u64 0, .slice none 0 0, .string { data := #[] }, .bool false, .int .u8 0, .int .u8 0, .int .u8 0, .int .u8 0, .int .u8 0, .int .u8 0, .int .u8 0, .int .u8 0, .int .u8 0, .int .u8 0, .int .u8 0, .int .u8 0, .int .u8 0, .int .u8 0, .int .u8 0, .int .u8 0, .int .i64 0, .float .f64 0] (by rw [h]; decide)
  rw [h] at hz
  have e : ([Value.int .i64 5, .int .u64 0, .slice none 0 0, .string { data := #[] }, .bool false, .int .u8 0, .int .u8 0, .int .u8 0, .int .u8 0, .int .u8 0, .int .u8 0, .int .u8 0, .int .u8 0, .int .u8 0, .int .u8 0, .int .u8 0, .int .u8 0, .int .u8 0, .int .u8 0, .int .u8 0, .int .u8 0, .int .i64 0, .float .f64 0].take 4 ++ V ++ [Value.int .i64 5, .int .u64 0, .slice none 0 0, .string { data := #[] }, .bool false, .int .u8 0, .int .u8 0, .int .u8 0, .int .u8 0, .int .u8 0, .int .u8 0, .int .u8 0, .int .u8 0, .int .u8 0, .int .u8 0, .int .u8 0, .int .u8 0, .int .u8 0, .int .u8 0, .int .u8 0, .int .u8 0, .int .i64 0, .float .f64 0].drop (4 + 18)) = [Value.int .i64 5, .int .u64 0, .slice none 0 0, .string { data := #[] }] ++ (V ++ [Value.float .f64 0]) := by
    show ([Value.int .i64 5, .int .u64 0, .slice none 0 0, .string { data := #[] }] ++ V) ++ [Value.float .f64 0] = _
    rw [List.append_assoc]
  rw [e, show (4 : Nat) = 4 + 0 from rfl, ← fold_off] at hz
  clear e
  go_simp
theorem six_of (P : Nat → Prop) (h0 : P 0) (h1 : P 1) (h2 : P 2) (h3 : P 3) (h4 : P 4) (h5 : P 5) : ∀ j, j < 6 → P j := by
  intro j h
  have : j = 0 ∨ j = 1 ∨ j = 2 ∨ j = 3 ∨ j = 4 ∨ j = 5 := by omega
  rcases this with rfl | rfl | rfl | rfl | rfl | rfl <;> assumption
/-- A row of six predicates, as it lies. -/
theorem slice_six (X : Nat → List Value) (h : ∀ j, j < 6 → (X j).length = 23) : ∃ R : List Value, R.length = 138 ∧ (∀ w, (Instr.buildSlice 49 6 #[(0, .agg (X 0).toArray), (1, .agg (X 1).toArray), (2, .agg (X 2).toArray), (3, .agg (X 3).toArray), (4, .agg (X 4).toArray), (5, .agg (X 5).toArray)]).run Tryz.prog w = .ok (.slice (some ⟨w.heap.size, 0, none⟩) 6 6) (w.alloc (.cells R.toArray 31))) ∧
    ∀ j, j < 6 → ∀ i v, (X j)[i]? = some v → R[j * 23 + i]? = some v := by
  obtain ⟨ie, hie, hsz⟩ : ∃ ie, Tryz.prog.info? 31 = some ie ∧ ie.size = 23 := by
    have := size_prd
    cases hi : Tryz.prog.info? 31 with
    | none => rw [hi] at this; cases this
    | some ie => rw [hi] at this; exact ⟨ie, rfl, Option.some.inj this⟩
  obtain ⟨z, hz⟩ : ∃ z, ie.zero = some z := by
    have : (Tryz.prog.info? 31).map (·.zero.isSome) = some true := by kernel_rfl
    rw [hie] at this
    exact Option.isSome_iff_exists.1 (Option.some.inj this)
  obtain ⟨r, h1, h2, h3⟩ := Great.fill_dense (s := 23) (by omega) [.agg (X 0).toArray, .agg (X 1).toArray, .agg (X 2).toArray, .agg (X 3).toArray, .agg (X 4).toArray, .agg (X 5).toArray] 0 ((Array.range (6 * ie.size)).map (z.cells[· % z.cells.size]!))
    (by
      intro v hv
      simp only [List.mem_cons, List.not_mem_nil, or_false] at hv
      rcases hv with rfl | rfl | rfl | rfl | rfl | rfl <;> show (List.toArray _).size = 23 <;> rw [List.size_toArray] <;> exact h _ (by omega))
    (by rw [Array.size_map, Array.size_range, hsz]; exact Nat.le_refl _)
  rw [Array.size_map, Array.size_range, hsz] at h2
  refine ⟨r.toList, by rw [Array.length_toList, h2], fun w => ?_, ?_⟩
  · rw [run_buildSlice w _ 31 6 _ r ie z Tryz.underlying49 hie hz (by rw [hsz]; decide) (by rw [hsz]; decide) (by rw [hsz]; exact hsz ▸ h1)]
  · intro j hj i v hv
    have hi : i < 23 := by have := (List.getElem?_eq_some_iff.1 hv).1; rw [h j hj] at this; exact this
    rw [Array.getElem?_toList, h3 (j * 23 + i), if_pos (by simp only [List.length_cons, List.length_nil]; omega), show (j * 23 + i) / 23 - 0 = j by omega, show (j * 23 + i) % 23 = i by omega]
    have key : ([.agg (X 0).toArray, .agg (X 1).toArray, .agg (X 2).toArray, .agg (X 3).toArray, .agg (X 4).toArray, .agg (X 5).toArray] : List Value)[j]? = some (.agg (X j).toArray) :=
      six_of (fun j => ([.agg (X 0).toArray, .agg (X 1).toArray, .agg (X 2).toArray, .agg (X 3).toArray, .agg (X 4).toArray, .agg (X 5).toArray] : List Value)[j]? = some (.agg (X j).toArray)) rfl rfl rfl rfl rfl rfl j hj
    rw [key]
    show (X j).toArray[i]? = some v
    rw [List.getElem?_toArray]; exact hv
end Go.Proofs.YtgnhmpfoddfpdaaGreatDoor

/- LAYER 17: package caveat: read. -/
namespace Go.Proofs.YtgnhmpfoddfpdaaGreatDoor
set_option maxRecDepth 100000
open Go Go.RowKit

@[go_sem] theorem run_store_float {P : Program} {w : World} {a : Addr} (k : FloatKind) (b : Nat) (m : Mode) : (store a (.float k b) m).run P w = stored P w a (.float k b) m := run_store P w a _ m rfl
theorem xsplitN_own (s : List UInt8) (hs : s.length ≤ 100000) (w : World) (hE : EnvX w) : ∃ ps : List (List UInt8), namesC s = (if riseL ps = true then some ps else none) ∧ (∀ p ∈ ps, p.length ≤ s.length) ∧ ps.length ≤ 33 ∧
    Calls Tryz.prog 57 #[.string (bstr s), .string ⟨#[44]⟩, .int .i64 33] w fun e w' => ∃ A c, e = .returned (.slice A ps.length c) ∧ Sl w' A c (strsV ps) ∧ (∀ g, g < w.heap.size → ∀ a, A = some a → a.block ≠ g) ∧ Below w.heap.size w w' := by
  obtain ⟨m, hm⟩ := hE
  have h := Tryz.strings_SplitN (bstr s) (bstr [44]) 33 m w (by rw [size_bstr]; omega) hm (Nat.le_refl 1) (by omega) (by omega)
  rw [size_bstr] at h
  obtain ⟨ps, e1, e2, e3, e4⟩ := splitN_names s
  rw [e1, List.length_map] at h
  refine ⟨ps, e2, e3, by omega, h.mono ?_⟩
  rintro e w' ⟨rfl, rfl⟩
  have e5 : Lib.cellsOf (ps.map bstr) (min 33 (s.length + 1)) = (strsV ps ++ List.replicate (min 33 (s.length + 1) - ps.length) (Value.string ByteArray.empty)).toArray := by
    unfold Lib.cellsOf strsV
    rw [List.map_map, List.length_map]; rfl
  rw [e5]
  exact ⟨_, _, rfl, (sl_made (t := 9) _ rfl (min 33 (s.length + 1)) (by rw [List.length_append, length_strsV, List.length_replicate]; omega)).pre, (fun g hg a ha => by cases ha; exact Nat.ne_of_gt hg), (Below.refl _ w).alloc (Nat.le_refl _) _⟩
set_option maxHeartbeats 2000000 in
theorem xnames_own (s : List UInt8) (hs : s.length ≤ 2100) (w : World) (hE : EnvX w) : Calls Tryz.prog 32 #[.string (bstr s)] w (GaveRowF (namesC s) w) := by
  have hz := size_bstr s
  obtain ⟨ps, hv, hp, hlen, hsp⟩ := xsplitN_own s (by omega) w hE
  have hsp := Lib.hid hsp
  have hri := Lib.hid (fun A c w' => xfit_any ps (fun p hq => by have := hp p hq; omega) (by omega) A c w')
  have HV := Lib.hid hv
  generalize namesC s = V at *
  clear hE hs hlen hv hp
  cases hr : riseL ps with
  | true =>
    have HW := Lib.hid (HV.out.trans (if_pos hr))
    rw [hr] at hri
    clear HV hr
    go_enter Tryz.func32, Tryz.ntmps32
    go_wp2_with (first
      | (go_at_call 57; refine hsp.out.mono ?_; rintro e w1 ⟨A, c, rfl, hsl, hap, hb1⟩; have hap := Lib.hid hap)
      | (go_at_call 58; refine (hri.out A c w1 hsl).mono ?_; rintro e w' ⟨rfl, hq⟩; have hsl := hsl.later (Nat.le_refl _) hq; have hb2 := hb1.trans (hq.mono hb1.size)))
    go_ret2
    exact ⟨A, c, by rw [HW.out]; rfl, by rw [HW.out]; exact hsl, hap.out, hb2⟩
  | false =>
    have HW := Lib.hid (HV.out.trans (if_neg (by rw [hr]; decide)))
    rw [hr] at hri
    clear HV hr
    go_enter Tryz.func32, Tryz.ntmps32
    go_wp2_with (first
      | (go_at_call 57; refine hsp.out.mono ?_; rintro e w1 ⟨A, c, rfl, hsl, hap, hb1⟩; have hap := Lib.hid hap)
      | (go_at_call 58; refine (hri.out A c w1 hsl).mono ?_; rintro e w' ⟨rfl, hq⟩; have hb2 := hb1.trans (hq.mono hb1.size)))
    go_ret2
    exact ⟨none, 0, by rw [HW.out]; rfl, by rw [HW.out]; exact sl_none16 _, fun g _ a ha => (by cases ha), hb2⟩
theorem map_gave {α : Type} (o : Option α) (z : α) (f : α → Prd) (x : Prd) (h : o.map f = some x) : f (o.getD z) = x := by
  cases o with
  | none => cases h
  | some a => exact Option.some.inj h
theorem prdAt_plain (q : Prd) (ho : q.Ok) (hn : q.names = []) (h0 : 0 ≤ q.kind) (h7 : q.kind ≤ 7) (hp : q.path.length ≤ 4000) (w : World) : PrdAt w q none 0 :=
  ⟨ho, by rw [hn]; exact sl_none16 w, by omega, by omega, hp, by rw [hn]; show (0 : Nat) ≤ 4000; omega⟩
/-- What a call answers that reads two words. -/
def GaveRead (o : Option Prd) (w : World) (e : Ending) (w' : World) : Prop :=
  ∃ (q : Prd) (A : Option Addr) (c : Nat), e = .returned (.tuple #[.agg (prdV q A c).toArray, .bool o.isSome]) ∧ PrdAt w' q A c ∧ (∀ g, g < w.heap.size → ∀ a, A = some a → a.block ≠ g) ∧ (∀ x, o = some x → q = x) ∧ Below w.heap.size w w'

set_option maxHeartbeats 1000000 in
theorem pread_0 (a b : List UInt8) (_ : b.length ≤ 1000) (w : World) (_ : EnvQ w) (e1 : a ≠ [98, 101, 102, 111, 114, 101]) (e2 : a ≠ [115, 105, 110, 99, 101]) (e3 : a ≠ [111, 112]) (e4 : a ≠ [112, 97, 116, 104]) (e5 : a ≠ [110, 101, 116]) (e6 : a ≠ [99, 111, 115, 116]) : Calls Tryz.prog 15 #[.string (bstr a), .string (bstr b)] w (GaveRead (readP a b) w) := by
  have HV : readP a b = none := by unfold readP; rw [if_neg e1, if_neg e2, if_neg e3, if_neg e4, if_neg e5, if_neg e6]
  have b1 := (bstr_is15 a [98, 101, 102, 111, 114, 101]).trans (decide_eq_false e1)
  have b2 := (bstr_is15 a [115, 105, 110, 99, 101]).trans (decide_eq_false e2)
  have b3 := (bstr_is15 a [111, 112]).trans (decide_eq_false e3)
  have b4 := (bstr_is15 a [112, 97, 116, 104]).trans (decide_eq_false e4)
  have b5 := (bstr_is15 a [110, 101, 116]).trans (decide_eq_false e5)
  have b6 := (bstr_is15 a [99, 111, 115, 116]).trans (decide_eq_false e6)
  clear e1 e2 e3 e4 e5 e6
  have HP := Lib.hid (show false = (readP a b).isSome ∧ ∀ x, readP a b = some x → zeroP = x from ⟨by rw [HV]; rfl, fun x hx => by rw [HV] at hx; cases hx⟩)
  clear HV
  generalize readP a b = o at *
  obtain ⟨Z, hZ⟩ : ∃ Z, Z = prdV zeroP none 0 := ⟨_, rfl⟩
  have hZe := hZ.trans prd_zero
  obtain ⟨w1, hw1⟩ : ∃ w1, w1 = w.alloc (.cells Z.toArray 31) := ⟨_, rfl⟩
  have r1 : Row w1 w.heap.size 31 Z := by rw [hw1]; exact Row.new w _ _
  have hb1 : Below w.heap.size w w1 := by rw [hw1]; exact (Below.refl _ w).alloc (Nat.le_refl _) _
  have HW := Lib.hid (hw1.trans (show w.alloc (.cells Z.toArray 31) = w.alloc (.cells [Value.int .i64 0, .int .u64 0, .slice none 0 0, .string { data := #[] }, .bool false, .int .u8 0, .int .u8 0, .int .u8 0, .int .u8 0, .int .u8 0, .int .u8 0, .int .u8 0, .int .u8 0, .int .u8 0, .int .u8 0, .int .u8 0, .int .u8 0, .int .u8 0, .int .u8 0, .int .u8 0, .int .u8 0, .int .i64 0, .float .f64 0].toArray 31) by rw [hZe]))
  have tok1 : True := trivial
  clear hw1
  have ho := zeroP_ok
  have hV : Z = prdV zeroP none 0 := hZ
  clear hZ hZe
  obtain ⟨V, hVZ⟩ : ∃ V, V = Z := ⟨_, rfl⟩
  rw [← hVZ] at hV r1
  clear hVZ
  have hVl := Lib.hid (show (Tryz.prog.info? 31).map (·.size) = some V.length by rw [hV, length_prdV _ ho.net.a]; exact size_prd)
  have hzV := Lib.hid (show (Tryz.prog.info? 31).map (·.size) = some V.toArray.size by rw [List.size_toArray]; exact hVl.out)
  have hV1 := Lib.hid (show V.toArray.all (·.oneCell') = true by rw [hV]; exact prdV_one _ _ _)
  have hVs := Lib.hid (show 23 = V.toArray.size by rw [List.size_toArray, hV, length_prdV _ ho.net.a])
  have HV := Lib.hid hV
  clear hV
  have r4 := r1
  have Q4 := Lib.hid (show w1.heap[w.heap.size]? = some (.cells V.toArray 31 (0, 0)) from r4)
  have K4 := Lib.hid (row_range r4)
  clear r4
  go_enter Tryz.func15, Tryz.ntmps15
  generalize bstr a = S at *
  go_wp2_with (first
    | (have _t := tok1; rw [← HW.out]; clear tok1)
    | (with_reducible refine wpList_load_mid rfl 31 (.tmp 4) rfl w.heap.size 0 rfl V _ K4.out Tryz.underlying31 rfl hVl.out ?_)
    | (with_reducible refine wpList_store_row rfl 31 (.tmp 4) (.tmp 59) rfl w.heap.size V.toArray rfl rfl 31 V.toArray Q4.out hzV.out rfl hV1.out ?_; refine Hid.out ?_))
  refine Lib.hid ?_
  generalize hw8 : World.setRow _ _ _ = w8
  obtain ⟨r8, hg8⟩ := row_set (show Row w1 w.heap.size 31 V from Q4.out) hw8
  have hb8 := hb1.grown hg8 hb1.size (fun k h => by cases h; exact Nat.le_refl _)
  have R8 := Lib.hid (show w8.heap[w.heap.size]? = some (.cells V.toArray 31 (0, 0)) from r8)
  clear hw8 r8 Q4 K4
  go_wp2_with fail
  exact ⟨rfl, _, results_row_tmp rfl _ _ w.heap.size 31 V.toArray (0, 0) _ rfl R8.out Tryz.underlying31 rfl hzV.out _ rfl, zeroP, none, 0, by rw [HV.out, ← HP.out.1]; rfl, zero_at _, fun g _ a ha => (by cases ha), HP.out.2, hb8⟩

set_option maxHeartbeats 1000000 in
theorem pread_1 (a b : List UInt8) (hb : b.length ≤ 1000) (w : World) (hE : EnvQ w) (e : a = [98, 101, 102, 111, 114, 101]) : Calls Tryz.prog 15 #[.string (bstr a), .string (bstr b)] w (GaveRead (readP a b) w) := by
  subst e
  have HV : readP [98, 101, 102, 111, 114, 101] b = ((numberL b).map fun n => ⟨1, n, [], [], zeroR, 0⟩) := rfl
  have b1 := (bstr_is15 [98, 101, 102, 111, 114, 101] [98, 101, 102, 111, 114, 101]).trans (decide_eq_true rfl)
  have ho : (⟨1, (numberL b).getD 0, [], [], zeroR, 0⟩ : Prd).Ok := ⟨zeroR_ok, numberL_lt b, by show (0 : Nat) < 2 ^ 64; decide⟩
  have HP := Lib.hid (show (numberL b).isSome = (readP [98, 101, 102, 111, 114, 101] b).isSome ∧ ∀ x, readP [98, 101, 102, 111, 114, 101] b = some x → (⟨1, (numberL b).getD 0, [], [], zeroR, 0⟩ : Prd) = x from ⟨by rw [HV, Option.isSome_map], fun x hx => map_gave (numberL b) 0 (fun n => ⟨1, n, [], [], zeroR, 0⟩) x (by rw [← HV]; exact hx)⟩)
  have hcon := fun w' h => xnumber_any b (by omega) w' h
  rw [show numAns (numberL b) = .tuple #[.int .u64 (((numberL b).getD 0 : Nat) : Int), .bool (numberL b).isSome] from rfl] at hcon
  have hcon := Lib.hid hcon
  clear HV
  generalize (numberL b).getD 0 = n at *
  generalize (numberL b).isSome = ok at *
  generalize readP [98, 101, 102, 111, 114, 101] b = o at *
  obtain ⟨Z, hZ⟩ : ∃ Z, Z = prdV zeroP none 0 := ⟨_, rfl⟩
  have hZe := hZ.trans prd_zero
  obtain ⟨w1, hw1⟩ : ∃ w1, w1 = w.alloc (.cells Z.toArray 31) := ⟨_, rfl⟩
  have r1 : Row w1 w.heap.size 31 Z := by rw [hw1]; exact Row.new w _ _
  have hb1 : Below w.heap.size w w1 := by rw [hw1]; exact (Below.refl _ w).alloc (Nat.le_refl _) _
  have HW := Lib.hid (hw1.trans (show w.alloc (.cells Z.toArray 31) = w.alloc (.cells [Value.int .i64 0, .int .u64 0, .slice none 0 0, .string { data := #[] }, .bool false, .int .u8 0, .int .u8 0, .int .u8 0, .int .u8 0, .int .u8 0, .int .u8 0, .int .u8 0, .int .u8 0, .int .u8 0, .int .u8 0, .int .u8 0, .int .u8 0, .int .u8 0, .int .u8 0, .int .u8 0, .int .u8 0, .int .i64 0, .float .f64 0].toArray 31) by rw [hZe]))
  have tok1 : True := trivial
  clear hw1
  have c0 : w1.cell? ⟨w.heap.size, 0, none⟩ = some (.int .i64 0) := by rw [r1.cell, hZe]; rfl
  have f0 := r1.free 0
  obtain ⟨w2, hw2⟩ : ∃ w2, w2 = w1.setCell ⟨w.heap.size, 0, none⟩ (.int .i64 1) := ⟨_, rfl⟩
  have r2 : Row w2 w.heap.size 31 (Z.set 0 (.int .i64 1)) := by rw [hw2]; exact r1.set 0 _
  have hb2 : Below w.heap.size w w2 := by rw [hw2]; exact hb1.grown (grown_setCell _ _ _ _) hb1.size (fun k h => by cases h; exact Nat.le_refl _)
  have hE2 := hE.next hb2
  have HW2 := Lib.hid hw2
  have tok2 : True := trivial
  have hcon := Lib.hid (hcon.out _ hE2.n)
  clear hw2 hE hE2 r1 hb1
  generalize bstr [98, 101, 102, 111, 114, 101] = S at *
  go_enter Tryz.func15, Tryz.ntmps15
  go_wp2_with (first
    | (have _t := tok1; rw [← HW.out]; clear tok1)
    | (have _t := tok2; rw [← HW2.out]; clear tok2)
    | (go_at_call 31; refine hcon.out.mono ?_; rintro e w3 ⟨rfl, hq3⟩; refine Hid.out ?_))
  refine Lib.hid ?_
  have r3 := r2.later hq3 r2.lt
  have hb3 := hb2.trans (hq3.mono hb2.size)
  clear hcon HW HW2 c0 f0 r2 hb2 hq3
  have c1 : w3.cell? ⟨w.heap.size, 1, none⟩ = some (.int .u64 0) := by rw [r3.cell, hZe]; rfl
  have f1 := r3.free 1
  obtain ⟨w4, hw4⟩ : ∃ w4, w4 = w3.setCell ⟨w.heap.size, 1, none⟩ (.int .u64 (n : Int)) := ⟨_, rfl⟩
  obtain ⟨V, hV⟩ : ∃ V, V = prdV (⟨1, n, [], [], zeroR, 0⟩ : Prd) none 0 := ⟨_, rfl⟩
  have r4 : Row w4 w.heap.size 31 V := by
    rw [hw4, hV, show prdV (⟨1, n, [], [], zeroR, 0⟩ : Prd) none 0 = (Z.set 0 (.int .i64 1)).set 1 (.int .u64 (n : Int)) by rw [hZ]; rfl]
    exact r3.set 1 _
  have hg4 : w3.grownBy w4 (some w.heap.size) := by rw [hw4]; exact grown_setCell _ _ _ _
  have hb4 := hb3.grown hg4 hb3.size (fun k h => by cases h; exact Nat.le_refl _)
  have HW4 := Lib.hid hw4
  have tok4 : True := trivial
  clear hw4 r3 hb3 hg4 hZ hZe
  have hVl := Lib.hid (show (Tryz.prog.info? 31).map (·.size) = some V.length by rw [hV, length_prdV _ ho.net.a]; exact size_prd)
  have hzV := Lib.hid (show (Tryz.prog.info? 31).map (·.size) = some V.toArray.size by rw [List.size_toArray]; exact hVl.out)
  have hV1 := Lib.hid (show V.toArray.all (·.oneCell') = true by rw [hV]; exact prdV_one _ _ _)
  have hVs := Lib.hid (show 23 = V.toArray.size by rw [List.size_toArray, hV, length_prdV _ ho.net.a])
  have HV := Lib.hid hV
  clear hV
  have Q4 := Lib.hid (show w4.heap[w.heap.size]? = some (.cells V.toArray 31 (0, 0)) from r4)
  have K4 := Lib.hid (row_range r4)
  clear r4
  go_wp2_with (first
    | (have _t := tok4; rw [← HW4.out]; clear tok4)
    | (with_reducible refine wpList_load_mid rfl 31 (.tmp 4) rfl w.heap.size 0 rfl V _ K4.out Tryz.underlying31 rfl hVl.out ?_)
    | (with_reducible refine wpList_store_row rfl 31 (.tmp 4) (.tmp 59) rfl w.heap.size V.toArray rfl rfl 31 V.toArray Q4.out hzV.out rfl hV1.out ?_; refine Hid.out ?_))
  refine Lib.hid ?_
  generalize hw8 : World.setRow _ _ _ = w8
  obtain ⟨r8, hg8⟩ := row_set (show Row w4 w.heap.size 31 V from Q4.out) hw8
  have hb8 := hb4.grown hg8 hb4.size (fun k h => by cases h; exact Nat.le_refl _)
  have R8 := Lib.hid (show w8.heap[w.heap.size]? = some (.cells V.toArray 31 (0, 0)) from r8)
  clear hw8 r8 Q4 K4
  go_wp2_with fail
  exact ⟨rfl, _, results_row_tmp rfl _ _ w.heap.size 31 V.toArray (0, 0) _ rfl R8.out Tryz.underlying31 rfl hzV.out _ rfl, (⟨1, n, [], [], zeroR, 0⟩ : Prd), none, 0, by rw [HV.out, ← HP.out.1]; rfl, prdAt_plain _ ho rfl (by show (0 : Int) ≤ 1; decide) (by show (1 : Int) ≤ 7; decide) (by show (0 : Nat) ≤ 4000; omega) _, fun g _ a ha => (by cases ha), HP.out.2, hb8⟩
set_option maxHeartbeats 1000000 in
theorem pread_2 (a b : List UInt8) (hb : b.length ≤ 1000) (w : World) (hE : EnvQ w) (e : a = [115, 105, 110, 99, 101]) : Calls Tryz.prog 15 #[.string (bstr a), .string (bstr b)] w (GaveRead (readP a b) w) := by
  subst e
  have HV : readP [115, 105, 110, 99, 101] b = ((numberL b).map fun n => ⟨2, n, [], [], zeroR, 0⟩) := rfl
  have b1 := (bstr_is15 [115, 105, 110, 99, 101] [98, 101, 102, 111, 114, 101]).trans (decide_eq_false (by decide))
  have b2 := (bstr_is15 [115, 105, 110, 99, 101] [115, 105, 110, 99, 101]).trans (decide_eq_true rfl)
  have ho : (⟨2, (numberL b).getD 0, [], [], zeroR, 0⟩ : Prd).Ok := ⟨zeroR_ok, numberL_lt b, by show (0 : Nat) < 2 ^ 64; decide⟩
  have HP := Lib.hid (show (numberL b).isSome = (readP [115, 105, 110, 99, 101] b).isSome ∧ ∀ x, readP [115, 105, 110, 99, 101] b = some x → (⟨2, (numberL b).getD 0, [], [], zeroR, 0⟩ : Prd) = x from ⟨by rw [HV, Option.isSome_map], fun x hx => map_gave (numberL b) 0 (fun n => ⟨2, n, [], [], zeroR, 0⟩) x (by rw [← HV]; exact hx)⟩)
  have hcon := fun w' h => xnumber_any b (by omega) w' h
  rw [show numAns (numberL b) = .tuple #[.int .u64 (((numberL b).getD 0 : Nat) : Int), .bool (numberL b).isSome] from rfl] at hcon
  have hcon := Lib.hid hcon
  clear HV
  generalize (numberL b).getD 0 = n at *
  generalize (numberL b).isSome = ok at *
  generalize readP [115, 105, 110, 99, 101] b = o at *
  obtain ⟨Z, hZ⟩ : ∃ Z, Z = prdV zeroP none 0 := ⟨_, rfl⟩
  have hZe := hZ.trans prd_zero
  obtain ⟨w1, hw1⟩ : ∃ w1, w1 = w.alloc (.cells Z.toArray 31) := ⟨_, rfl⟩
  have r1 : Row w1 w.heap.size 31 Z := by rw [hw1]; exact Row.new w _ _
  have hb1 : Below w.heap.size w w1 := by rw [hw1]; exact (Below.refl _ w).alloc (Nat.le_refl _) _
  have HW := Lib.hid (hw1.trans (show w.alloc (.cells Z.toArray 31) = w.alloc (.cells [Value.int .i64 0, .int .u64 0, .slice none 0 0, .string { data := #[] }, .bool false, .int .u8 0, .int .u8 0, .int .u8 0, .int .u8 0, .int .u8 0, .int .u8 0, .int .u8 0, .int .u8 0, .int .u8 0, .int .u8 0, .int .u8 0, .int .u8 0, .int .u8 0, .int .u8 0, .int .u8 0, .int .u8 0, .int .i64 0, .float .f64 0].toArray 31) by rw [hZe]))
  have tok1 : True := trivial
  clear hw1
  have c0 : w1.cell? ⟨w.heap.size, 0, none⟩ = some (.int .i64 0) := by rw [r1.cell, hZe]; rfl
  have f0 := r1.free 0
  obtain ⟨w2, hw2⟩ : ∃ w2, w2 = w1.setCell ⟨w.heap.size, 0, none⟩ (.int .i64 2) := ⟨_, rfl⟩
  have r2 : Row w2 w.heap.size 31 (Z.set 0 (.int .i64 2)) := by rw [hw2]; exact r1.set 0 _
  have hb2 : Below w.heap.size w w2 := by rw [hw2]; exact hb1.grown (grown_setCell _ _ _ _) hb1.size (fun k h => by cases h; exact Nat.le_refl _)
  have hE2 := hE.next hb2
  have HW2 := Lib.hid hw2
  have tok2 : True := trivial
  have hcon := Lib.hid (hcon.out _ hE2.n)
  clear hw2 hE hE2 r1 hb1
  generalize bstr [115, 105, 110, 99, 101] = S at *
  go_enter Tryz.func15, Tryz.ntmps15
  go_wp2_with (first
    | (have _t := tok1; rw [← HW.out]; clear tok1)
    | (have _t := tok2; rw [← HW2.out]; clear tok2)
    | (go_at_call 31; refine hcon.out.mono ?_; rintro e w3 ⟨rfl, hq3⟩; refine Hid.out ?_))
  refine Lib.hid ?_
  have r3 := r2.later hq3 r2.lt
  have hb3 := hb2.trans (hq3.mono hb2.size)
  clear hcon HW HW2 c0 f0 r2 hb2 hq3
  have c1 : w3.cell? ⟨w.heap.size, 1, none⟩ = some (.int .u64 0) := by rw [r3.cell, hZe]; rfl
  have f1 := r3.free 1
  obtain ⟨w4, hw4⟩ : ∃ w4, w4 = w3.setCell ⟨w.heap.size, 1, none⟩ (.int .u64 (n : Int)) := ⟨_, rfl⟩
  obtain ⟨V, hV⟩ : ∃ V, V = prdV (⟨2, n, [], [], zeroR, 0⟩ : Prd) none 0 := ⟨_, rfl⟩
  have r4 : Row w4 w.heap.size 31 V := by
    rw [hw4, hV, show prdV (⟨2, n, [], [], zeroR, 0⟩ : Prd) none 0 = (Z.set 0 (.int .i64 2)).set 1 (.int .u64 (n : Int)) by rw [hZ]; rfl]
    exact r3.set 1 _
  have hg4 : w3.grownBy w4 (some w.heap.size) := by rw [hw4]; exact grown_setCell _ _ _ _
  have hb4 := hb3.grown hg4 hb3.size (fun k h => by cases h; exact Nat.le_refl _)
  have HW4 := Lib.hid hw4
  have tok4 : True := trivial
  clear hw4 r3 hb3 hg4 hZ hZe
  have hVl := Lib.hid (show (Tryz.prog.info? 31).map (·.size) = some V.length by rw [hV, length_prdV _ ho.net.a]; exact size_prd)
  have hzV := Lib.hid (show (Tryz.prog.info? 31).map (·.size) = some V.toArray.size by rw [List.size_toArray]; exact hVl.out)
  have hV1 := Lib.hid (show V.toArray.all (·.oneCell') = true by rw [hV]; exact prdV_one _ _ _)
  have hVs := Lib.hid (show 23 = V.toArray.size by rw [List.size_toArray, hV, length_prdV _ ho.net.a])
  have HV := Lib.hid hV
  clear hV
  have Q4 := Lib.hid (show w4.heap[w.heap.size]? = some (.cells V.toArray 31 (0, 0)) from r4)
  have K4 := Lib.hid (row_range r4)
  clear r4
  go_wp2_with (first
    | (have _t := tok4; rw [← HW4.out]; clear tok4)
    | (with_reducible refine wpList_load_mid rfl 31 (.tmp 4) rfl w.heap.size 0 rfl V _ K4.out Tryz.underlying31 rfl hVl.out ?_)
    | (with_reducible refine wpList_store_row rfl 31 (.tmp 4) (.tmp 59) rfl w.heap.size V.toArray rfl rfl 31 V.toArray Q4.out hzV.out rfl hV1.out ?_; refine Hid.out ?_))
  refine Lib.hid ?_
  generalize hw8 : World.setRow _ _ _ = w8
  obtain ⟨r8, hg8⟩ := row_set (show Row w4 w.heap.size 31 V from Q4.out) hw8
  have hb8 := hb4.grown hg8 hb4.size (fun k h => by cases h; exact Nat.le_refl _)
  have R8 := Lib.hid (show w8.heap[w.heap.size]? = some (.cells V.toArray 31 (0, 0)) from r8)
  clear hw8 r8 Q4 K4
  go_wp2_with fail
  exact ⟨rfl, _, results_row_tmp rfl _ _ w.heap.size 31 V.toArray (0, 0) _ rfl R8.out Tryz.underlying31 rfl hzV.out _ rfl, (⟨2, n, [], [], zeroR, 0⟩ : Prd), none, 0, by rw [HV.out, ← HP.out.1]; rfl, prdAt_plain _ ho rfl (by show (0 : Int) ≤ 2; decide) (by show (2 : Int) ≤ 7; decide) (by show (0 : Nat) ≤ 4000; omega) _, fun g _ a ha => (by cases ha), HP.out.2, hb8⟩
set_option maxHeartbeats 1000000 in
theorem pread_3 (a b : List UInt8) (hb : b.length ≤ 1000) (w : World) (hE : EnvQ w) (e : a = [111, 112]) : Calls Tryz.prog 15 #[.string (bstr a), .string (bstr b)] w (GaveRead (readP a b) w) := by
  subst e
  have HV : readP [111, 112] b = ((namesC b).map fun l => ⟨3, 0, l, [], zeroR, 0⟩) := rfl
  have b1 := (bstr_is15 [111, 112] [98, 101, 102, 111, 114, 101]).trans (decide_eq_false (by decide))
  have b2 := (bstr_is15 [111, 112] [115, 105, 110, 99, 101]).trans (decide_eq_false (by decide))
  have b3 := (bstr_is15 [111, 112] [111, 112]).trans (decide_eq_true rfl)
  have hsum := names_sum17 b (by omega)
  have ho : (⟨3, 0, (namesC b).getD [], [], zeroR, 0⟩ : Prd).Ok := ⟨zeroR_ok, by show (0 : Nat) < 2 ^ 64; decide, by show (0 : Nat) < 2 ^ 64; decide⟩
  have HP := Lib.hid (show (namesC b).isSome = (readP [111, 112] b).isSome ∧ ∀ x, readP [111, 112] b = some x → (⟨3, 0, (namesC b).getD [], [], zeroR, 0⟩ : Prd) = x from ⟨by rw [HV, Option.isSome_map], fun x hx => map_gave (namesC b) [] (fun l => ⟨3, 0, l, [], zeroR, 0⟩) x (by rw [← HV]; exact hx)⟩)
  have hcon := fun w' h => xnames_own b (by omega) w' h
  unfold GaveRowF at hcon
  have hcon := Lib.hid hcon
  clear HV
  generalize (namesC b).getD [] = l at *
  generalize (namesC b).isSome = ok at *
  generalize readP [111, 112] b = o at *
  obtain ⟨Z, hZ⟩ : ∃ Z, Z = prdV zeroP none 0 := ⟨_, rfl⟩
  have hZe := hZ.trans prd_zero
  obtain ⟨w1, hw1⟩ : ∃ w1, w1 = w.alloc (.cells Z.toArray 31) := ⟨_, rfl⟩
  have r1 : Row w1 w.heap.size 31 Z := by rw [hw1]; exact Row.new w _ _
  have hb1 : Below w.heap.size w w1 := by rw [hw1]; exact (Below.refl _ w).alloc (Nat.le_refl _) _
  have HW := Lib.hid (hw1.trans (show w.alloc (.cells Z.toArray 31) = w.alloc (.cells [Value.int .i64 0, .int .u64 0, .slice none 0 0, .string { data := #[] }, .bool false, .int .u8 0, .int .u8 0, .int .u8 0, .int .u8 0, .int .u8 0, .int .u8 0, .int .u8 0, .int .u8 0, .int .u8 0, .int .u8 0, .int .u8 0, .int .u8 0, .int .u8 0, .int .u8 0, .int .u8 0, .int .u8 0, .int .i64 0, .float .f64 0].toArray 31) by rw [hZe]))
  have tok1 : True := trivial
  clear hw1
  have c0 : w1.cell? ⟨w.heap.size, 0, none⟩ = some (.int .i64 0) := by rw [r1.cell, hZe]; rfl
  have f0 := r1.free 0
  obtain ⟨w2, hw2⟩ : ∃ w2, w2 = w1.setCell ⟨w.heap.size, 0, none⟩ (.int .i64 3) := ⟨_, rfl⟩
  have r2 : Row w2 w.heap.size 31 (Z.set 0 (.int .i64 3)) := by rw [hw2]; exact r1.set 0 _
  have hb2 : Below w.heap.size w w2 := by rw [hw2]; exact hb1.grown (grown_setCell _ _ _ _) hb1.size (fun k h => by cases h; exact Nat.le_refl _)
  have hE2 := hE.next hb2
  have HW2 := Lib.hid hw2
  have tok2 : True := trivial
  have hcon := Lib.hid (hcon.out _ hE2.x)
  clear hw2 hE hE2 r1 hb1
  generalize bstr [111, 112] = S at *
  go_enter Tryz.func15, Tryz.ntmps15
  go_wp2_with (first
    | (have _t := tok1; rw [← HW.out]; clear tok1)
    | (have _t := tok2; rw [← HW2.out]; clear tok2)
    | (go_at_call 32; refine hcon.out.mono ?_; rintro e w3 ⟨A, c, rfl, sl3, hap, hq3⟩; have HAP := Lib.hid hap; have HBS := Lib.hid hb2.size; have hap := hap _ r2.lt; have hap := Lib.hid hap; refine Hid.out ?_))
  refine Lib.hid ?_
  have r3 := r2.later hq3 r2.lt
  have hb3 := hb2.trans (hq3.mono hb2.size)
  clear hcon HW HW2 c0 f0 r2 hb2 hq3
  have c1 : w3.cell? ⟨w.heap.size, 2, none⟩ = some (.slice none 0 0) := by rw [r3.cell, hZe]; rfl
  have f1 := r3.free 2
  obtain ⟨w4, hw4⟩ : ∃ w4, w4 = w3.setCell ⟨w.heap.size, 2, none⟩ (.slice A l.length c) := ⟨_, rfl⟩
  obtain ⟨V, hV⟩ : ∃ V, V = prdV (⟨3, 0, l, [], zeroR, 0⟩ : Prd) A c := ⟨_, rfl⟩
  have r4 : Row w4 w.heap.size 31 V := by
    rw [hw4, hV, show prdV (⟨3, 0, l, [], zeroR, 0⟩ : Prd) A c = (Z.set 0 (.int .i64 3)).set 2 (.slice A l.length c) by rw [hZ]; rfl]
    exact r3.set 2 _
  have hg4 : w3.grownBy w4 (some w.heap.size) := by rw [hw4]; exact grown_setCell _ _ _ _
  have hb4 := hb3.grown hg4 hb3.size (fun k h => by cases h; exact Nat.le_refl _)
  have HW4 := Lib.hid hw4
  have tok4 : True := trivial
  have hpa : PrdAt w3 (⟨3, 0, l, [], zeroR, 0⟩ : Prd) A c := ⟨ho, sl3, by show (-9223372036854775808 : Int) ≤ 3; decide, by show (3 : Int) ≤ 9223372036854775807; decide, by show (0 : Nat) ≤ 4000; omega, hsum⟩
  have HPA := Lib.hid (hpa.apart hg4 hap.out)
  clear hpa sl3
  clear hw4 r3 hb3 hg4 hZ hZe
  have hVl := Lib.hid (show (Tryz.prog.info? 31).map (·.size) = some V.length by rw [hV, length_prdV _ ho.net.a]; exact size_prd)
  have hzV := Lib.hid (show (Tryz.prog.info? 31).map (·.size) = some V.toArray.size by rw [List.size_toArray]; exact hVl.out)
  have hV1 := Lib.hid (show V.toArray.all (·.oneCell') = true by rw [hV]; exact prdV_one _ _ _)
  have hVs := Lib.hid (show 23 = V.toArray.size by rw [List.size_toArray, hV, length_prdV _ ho.net.a])
  have HV := Lib.hid hV
  clear hV
  have Q4 := Lib.hid (show w4.heap[w.heap.size]? = some (.cells V.toArray 31 (0, 0)) from r4)
  have K4 := Lib.hid (row_range r4)
  clear r4
  go_wp2_with (first
    | (have _t := tok4; rw [← HW4.out]; clear tok4)
    | (with_reducible refine wpList_load_mid rfl 31 (.tmp 4) rfl w.heap.size 0 rfl V _ K4.out Tryz.underlying31 rfl hVl.out ?_)
    | (with_reducible refine wpList_store_row rfl 31 (.tmp 4) (.tmp 59) rfl w.heap.size V.toArray rfl rfl 31 V.toArray Q4.out hzV.out rfl hV1.out ?_; refine Hid.out ?_))
  refine Lib.hid ?_
  generalize hw8 : World.setRow _ _ _ = w8
  obtain ⟨r8, hg8⟩ := row_set (show Row w4 w.heap.size 31 V from Q4.out) hw8
  have hb8 := hb4.grown hg8 hb4.size (fun k h => by cases h; exact Nat.le_refl _)
  have R8 := Lib.hid (show w8.heap[w.heap.size]? = some (.cells V.toArray 31 (0, 0)) from r8)
  clear hw8 r8 Q4 K4
  go_wp2_with fail
  exact ⟨rfl, _, results_row_tmp rfl _ _ w.heap.size 31 V.toArray (0, 0) _ rfl R8.out Tryz.underlying31 rfl hzV.out _ rfl, (⟨3, 0, l, [], zeroR, 0⟩ : Prd), A, c, by rw [HV.out, ← HP.out.1]; rfl, HPA.out.apart hg8 hap.out, fun g hg => HAP.out g (by have := HBS.out; omega), HP.out.2, hb8⟩
set_option maxHeartbeats 1000000 in
theorem pread_4 (a b : List UInt8) (hb : b.length ≤ 1000) (w : World) (hE : EnvQ w) (e : a = [112, 97, 116, 104]) : Calls Tryz.prog 15 #[.string (bstr a), .string (bstr b)] w (GaveRead (readP a b) w) := by
  subst e
  have HV : readP [112, 97, 116, 104] b = (if rightL b = true then some ⟨4, 0, [], b, zeroR, 0⟩ else none) := rfl
  have b1 := (bstr_is15 [112, 97, 116, 104] [98, 101, 102, 111, 114, 101]).trans (decide_eq_false (by decide))
  have b2 := (bstr_is15 [112, 97, 116, 104] [115, 105, 110, 99, 101]).trans (decide_eq_false (by decide))
  have b3 := (bstr_is15 [112, 97, 116, 104] [111, 112]).trans (decide_eq_false (by decide))
  have b4 := (bstr_is15 [112, 97, 116, 104] [112, 97, 116, 104]).trans (decide_eq_true rfl)
  have ho : (⟨4, 0, [], b, zeroR, 0⟩ : Prd).Ok := ⟨zeroR_ok, by show (0 : Nat) < 2 ^ 64; decide, by show (0 : Nat) < 2 ^ 64; decide⟩
  have HP := Lib.hid (show rightL b = (readP [112, 97, 116, 104] b).isSome ∧ ∀ x, readP [112, 97, 116, 104] b = some x → (⟨4, 0, [], b, zeroR, 0⟩ : Prd) = x from by
    rw [HV]
    cases rightL b with
    | true => exact ⟨rfl, fun x hx => Option.some.inj hx⟩
    | false => exact ⟨rfl, fun x hx => by cases hx⟩)
  have hcon := Lib.hid (fun w' => pright_any b (by omega) w')
  clear HV
  generalize rightL b = ok at *
  generalize readP [112, 97, 116, 104] b = o at *
  obtain ⟨Z, hZ⟩ : ∃ Z, Z = prdV zeroP none 0 := ⟨_, rfl⟩
  have hZe := hZ.trans prd_zero
  obtain ⟨w1, hw1⟩ : ∃ w1, w1 = w.alloc (.cells Z.toArray 31) := ⟨_, rfl⟩
  have r1 : Row w1 w.heap.size 31 Z := by rw [hw1]; exact Row.new w _ _
  have hb1 : Below w.heap.size w w1 := by rw [hw1]; exact (Below.refl _ w).alloc (Nat.le_refl _) _
  have HW := Lib.hid (hw1.trans (show w.alloc (.cells Z.toArray 31) = w.alloc (.cells [Value.int .i64 0, .int .u64 0, .slice none 0 0, .string { data := #[] }, .bool false, .int .u8 0, .int .u8 0, .int .u8 0, .int .u8 0, .int .u8 0, .int .u8 0, .int .u8 0, .int .u8 0, .int .u8 0, .int .u8 0, .int .u8 0, .int .u8 0, .int .u8 0, .int .u8 0, .int .u8 0, .int .u8 0, .int .i64 0, .float .f64 0].toArray 31) by rw [hZe]))
  have tok1 : True := trivial
  clear hw1
  have c0 : w1.cell? ⟨w.heap.size, 0, none⟩ = some (.int .i64 0) := by rw [r1.cell, hZe]; rfl
  have f0 := r1.free 0
  obtain ⟨w2, hw2⟩ : ∃ w2, w2 = w1.setCell ⟨w.heap.size, 0, none⟩ (.int .i64 4) := ⟨_, rfl⟩
  have r2 : Row w2 w.heap.size 31 (Z.set 0 (.int .i64 4)) := by rw [hw2]; exact r1.set 0 _
  have hb2 : Below w.heap.size w w2 := by rw [hw2]; exact hb1.grown (grown_setCell _ _ _ _) hb1.size (fun k h => by cases h; exact Nat.le_refl _)
  have hE2 := hE.next hb2
  have HW2 := Lib.hid hw2
  have tok2 : True := trivial
  have hcon := Lib.hid (hcon.out w2)
  clear hw2 hE hE2 r1 hb1
  generalize bstr [112, 97, 116, 104] = S at *
  go_enter Tryz.func15, Tryz.ntmps15
  go_wp2_with (first
    | (have _t := tok1; rw [← HW.out]; clear tok1)
    | (have _t := tok2; rw [← HW2.out]; clear tok2)
    | (go_at_call 33; refine hcon.out.mono ?_; rintro e w3 ⟨rfl, hq3⟩; refine Hid.out ?_))
  refine Lib.hid ?_
  have r3 := r2.later hq3 r2.lt
  have hb3 := hb2.trans (hq3.mono hb2.size)
  clear hcon HW HW2 c0 f0 r2 hb2 hq3
  have c1 : w3.cell? ⟨w.heap.size, 3, none⟩ = some (.string { data := #[] }) := by rw [r3.cell, hZe]; rfl
  have f1 := r3.free 3
  obtain ⟨w4, hw4⟩ : ∃ w4, w4 = w3.setCell ⟨w.heap.size, 3, none⟩ (.string (bstr b)) := ⟨_, rfl⟩
  obtain ⟨V, hV⟩ : ∃ V, V = prdV (⟨4, 0, [], b, zeroR, 0⟩ : Prd) none 0 := ⟨_, rfl⟩
  have r4 : Row w4 w.heap.size 31 V := by
    rw [hw4, hV, show prdV (⟨4, 0, [], b, zeroR, 0⟩ : Prd) none 0 = (Z.set 0 (.int .i64 4)).set 3 (.string (bstr b)) by rw [hZ]; rfl]
    exact r3.set 3 _
  have hg4 : w3.grownBy w4 (some w.heap.size) := by rw [hw4]; exact grown_setCell _ _ _ _
  have hb4 := hb3.grown hg4 hb3.size (fun k h => by cases h; exact Nat.le_refl _)
  have HW4 := Lib.hid hw4
  have tok4 : True := trivial
  clear hw4 r3 hb3 hg4 hZ hZe
  have hVl := Lib.hid (show (Tryz.prog.info? 31).map (·.size) = some V.length by rw [hV, length_prdV _ ho.net.a]; exact size_prd)
  have hzV := Lib.hid (show (Tryz.prog.info? 31).map (·.size) = some V.toArray.size by rw [List.size_toArray]; exact hVl.out)
  have hV1 := Lib.hid (show V.toArray.all (·.oneCell') = true by rw [hV]; exact prdV_one _ _ _)
  have hVs := Lib.hid (show 23 = V.toArray.size by rw [List.size_toArray, hV, length_prdV _ ho.net.a])
  have HV := Lib.hid hV
  clear hV
  have Q4 := Lib.hid (show w4.heap[w.heap.size]? = some (.cells V.toArray 31 (0, 0)) from r4)
  have K4 := Lib.hid (row_range r4)
  clear r4
  have HBN := Lib.hid hb
  clear hb
  generalize hBB : bstr b = B at *
  clear hBB
  go_wp2_with (first
    | (have _t := tok4; rw [← HW4.out]; clear tok4)
    | (with_reducible refine wpList_load_mid rfl 31 (.tmp 4) rfl w.heap.size 0 rfl V _ K4.out Tryz.underlying31 rfl hVl.out ?_)
    | (with_reducible refine wpList_store_row rfl 31 (.tmp 4) (.tmp 59) rfl w.heap.size V.toArray rfl rfl 31 V.toArray Q4.out hzV.out rfl hV1.out ?_; refine Hid.out ?_))
  refine Lib.hid ?_
  generalize hw8 : World.setRow _ _ _ = w8
  obtain ⟨r8, hg8⟩ := row_set (show Row w4 w.heap.size 31 V from Q4.out) hw8
  have hb8 := hb4.grown hg8 hb4.size (fun k h => by cases h; exact Nat.le_refl _)
  have R8 := Lib.hid (show w8.heap[w.heap.size]? = some (.cells V.toArray 31 (0, 0)) from r8)
  clear hw8 r8 Q4 K4
  go_wp2_with fail
  exact ⟨rfl, _, results_row_tmp rfl _ _ w.heap.size 31 V.toArray (0, 0) _ rfl R8.out Tryz.underlying31 rfl hzV.out _ rfl, (⟨4, 0, [], b, zeroR, 0⟩ : Prd), none, 0, by rw [HV.out, ← HP.out.1]; rfl, prdAt_plain _ ho rfl (by show (0 : Int) ≤ 4; decide) (by show (4 : Int) ≤ 7; decide) (by show b.length ≤ 4000; have := HBN.out; omega) _, fun g _ a ha => (by cases ha), HP.out.2, hb8⟩
set_option maxHeartbeats 1000000 in
theorem pread_5 (a b : List UInt8) (hb : b.length ≤ 1000) (w : World) (hE : EnvQ w) (e : a = [110, 101, 116]) : Calls Tryz.prog 15 #[.string (bstr a), .string (bstr b)] w (GaveRead (readP a b) w) := by
  subst e
  have HV : readP [110, 101, 116] b = ((parseR b).map fun r => ⟨5, 0, [], [], r, 0⟩) := rfl
  have b1 := (bstr_is15 [110, 101, 116] [98, 101, 102, 111, 114, 101]).trans (decide_eq_false (by decide))
  have b2 := (bstr_is15 [110, 101, 116] [115, 105, 110, 99, 101]).trans (decide_eq_false (by decide))
  have b3 := (bstr_is15 [110, 101, 116] [111, 112]).trans (decide_eq_false (by decide))
  have b4 := (bstr_is15 [110, 101, 116] [112, 97, 116, 104]).trans (decide_eq_false (by decide))
  have b5 := (bstr_is15 [110, 101, 116] [110, 101, 116]).trans (decide_eq_true rfl)
  have ho : (⟨5, 0, [], [], (parseR b).getD zeroR, 0⟩ : Prd).Ok := cands_ok b _ (cand_mem b 4 (by omega))
  have HP := Lib.hid (show (parseR b).isSome = (readP [110, 101, 116] b).isSome ∧ ∀ x, readP [110, 101, 116] b = some x → (⟨5, 0, [], [], (parseR b).getD zeroR, 0⟩ : Prd) = x from ⟨by rw [HV, Option.isSome_map], fun x hx => map_gave (parseR b) zeroR (fun r => ⟨5, 0, [], [], r, 0⟩) x (by rw [← HV]; exact hx)⟩)
  have hcon := fun w' h => aparse13_any b (by omega) w' h
  rw [parsR_out] at hcon
  have hcon := Lib.hid hcon
  clear HV
  generalize (parseR b).isSome = ok at *
  generalize (parseR b).getD zeroR = r at *
  obtain ⟨N, hN⟩ : ∃ N, N = rngV r := ⟨_, rfl⟩
  have hNl := Lib.hid (show N.length = 18 by rw [hN]; exact length_rngV' _ ho.net.a)
  have hzN := Lib.hid (show (Tryz.prog.info? 28).map (·.size) = some N.length by rw [hNl.out]; exact size_rng)
  have hN1 := Lib.hid (show ∀ v ∈ N, v.oneCell' = true by rw [hN]; exact rngV_one r)
  have HN := Lib.hid hN
  rw [← hN] at hcon
  clear hN
  generalize readP [110, 101, 116] b = o at *
  obtain ⟨Z, hZ⟩ : ∃ Z, Z = prdV zeroP none 0 := ⟨_, rfl⟩
  have hZe := hZ.trans prd_zero
  obtain ⟨w1, hw1⟩ : ∃ w1, w1 = w.alloc (.cells Z.toArray 31) := ⟨_, rfl⟩
  have r1 : Row w1 w.heap.size 31 Z := by rw [hw1]; exact Row.new w _ _
  have hb1 : Below w.heap.size w w1 := by rw [hw1]; exact (Below.refl _ w).alloc (Nat.le_refl _) _
  have HW := Lib.hid (hw1.trans (show w.alloc (.cells Z.toArray 31) = w.alloc (.cells [Value.int .i64 0, .int .u64 0, .slice none 0 0, .string { data := #[] }, .bool false, .int .u8 0, .int .u8 0, .int .u8 0, .int .u8 0, .int .u8 0, .int .u8 0, .int .u8 0, .int .u8 0, .int .u8 0, .int .u8 0, .int .u8 0, .int .u8 0, .int .u8 0, .int .u8 0, .int .u8 0, .int .u8 0, .int .i64 0, .float .f64 0].toArray 31) by rw [hZe]))
  have tok1 : True := trivial
  clear hw1
  have c0 : w1.cell? ⟨w.heap.size, 0, none⟩ = some (.int .i64 0) := by rw [r1.cell, hZe]; rfl
  have f0 := r1.free 0
  obtain ⟨w2, hw2⟩ : ∃ w2, w2 = w1.setCell ⟨w.heap.size, 0, none⟩ (.int .i64 5) := ⟨_, rfl⟩
  have r2 : Row w2 w.heap.size 31 (Z.set 0 (.int .i64 5)) := by rw [hw2]; exact r1.set 0 _
  have hb2 : Below w.heap.size w w2 := by rw [hw2]; exact hb1.grown (grown_setCell _ _ _ _) hb1.size (fun k h => by cases h; exact Nat.le_refl _)
  have hE2 := hE.next hb2
  have HW2 := Lib.hid hw2
  have tok2 : True := trivial
  have hcon := Lib.hid (hcon.out _ hE2.a)
  clear hw2 hE hE2 r1 hb1
  generalize bstr [110, 101, 116] = S at *
  go_enter Tryz.func15, Tryz.ntmps15
  go_wp2_with (first
    | (have _t := tok1; rw [← HW.out]; clear tok1)
    | (have _t := tok2; rw [← HW2.out]; clear tok2)
    | (go_at_call 34; refine hcon.out.mono ?_; rintro e w3 ⟨rfl, hq3⟩; refine Hid.out ?_))
  refine Lib.hid ?_
  have r3 := r2.later hq3 r2.lt
  have hb3 := hb2.trans (hq3.mono hb2.size)
  clear hcon HW HW2 c0 f0 r2 hb2 hq3
  have hZl := Lib.hid (show (Z.set 0 (.int .i64 5)).length = 23 by rw [hZe]; rfl)
  have HSP := Lib.hid (show splice (Z.set 0 (.int .i64 5)) 4 N = prdV (⟨5, 0, [], [], r, 0⟩ : Prd) none 0 by unfold splice; rw [hNl.out, HN.out, hZ]; rfl)
  obtain ⟨V, hV⟩ : ∃ V, V = prdV (⟨5, 0, [], [], r, 0⟩ : Prd) none 0 := ⟨_, rfl⟩
  rw [← hV] at HSP
  clear hZ hZe
  have hVl := Lib.hid (show (Tryz.prog.info? 31).map (·.size) = some V.length by rw [hV, length_prdV _ ho.net.a]; exact size_prd)
  have hzV := Lib.hid (show (Tryz.prog.info? 31).map (·.size) = some V.toArray.size by rw [List.size_toArray]; exact hVl.out)
  have hV1 := Lib.hid (show V.toArray.all (·.oneCell') = true by rw [hV]; exact prdV_one _ _ _)
  have hVs := Lib.hid (show 23 = V.toArray.size by rw [List.size_toArray, hV, length_prdV _ ho.net.a])
  have HV := Lib.hid hV
  clear hV
  go_wp2_with (first
    | ((with_reducible refine wpList_step fun K hK => ?_); refine step_store_row none rfl (by rfl) 28 (.tmp 49) (.tmp 47) rfl w.heap.size 4 31 _ N rfl rfl r3 (by rw [hNl.out, hZl.out]; omega) hzN.out hN1.out ?_; intro w4 r4 hg4; rw [HSP.out] at r4; refine hK _ _ ?_; clear hK; refine Hid.out ?_))
  refine Lib.hid ?_
  have hb4 := hb3.grown hg4 hb3.size (fun k h => by cases h; exact Nat.le_refl _)
  clear r3 hb3 hg4
  have Q4 := Lib.hid (show w4.heap[w.heap.size]? = some (.cells V.toArray 31 (0, 0)) from r4)
  have K4 := Lib.hid (row_range r4)
  clear r4
  go_wp2_with (first
    | (with_reducible refine wpList_load_mid rfl 31 (.tmp 4) rfl w.heap.size 0 rfl V _ K4.out Tryz.underlying31 rfl hVl.out ?_)
    | (with_reducible refine wpList_store_row rfl 31 (.tmp 4) (.tmp 59) rfl w.heap.size V.toArray rfl rfl 31 V.toArray Q4.out hzV.out rfl hV1.out ?_; refine Hid.out ?_))
  refine Lib.hid ?_
  generalize hw8 : World.setRow _ _ _ = w8
  obtain ⟨r8, hg8⟩ := row_set (show Row w4 w.heap.size 31 V from Q4.out) hw8
  have hb8 := hb4.grown hg8 hb4.size (fun k h => by cases h; exact Nat.le_refl _)
  have R8 := Lib.hid (show w8.heap[w.heap.size]? = some (.cells V.toArray 31 (0, 0)) from r8)
  clear hw8 r8 Q4 K4
  go_wp2_with fail
  exact ⟨rfl, _, results_row_tmp rfl _ _ w.heap.size 31 V.toArray (0, 0) _ rfl R8.out Tryz.underlying31 rfl hzV.out _ rfl, (⟨5, 0, [], [], r, 0⟩ : Prd), none, 0, by rw [HV.out, ← HP.out.1]; rfl, prdAt_plain _ ho rfl (by show (0 : Int) ≤ 5; decide) (by show (5 : Int) ≤ 7; decide) (by show (0 : Nat) ≤ 4000; omega) _, fun g _ a ha => (by cases ha), HP.out.2, hb8⟩
set_option maxHeartbeats 1000000 in
theorem pread_6 (a b : List UInt8) (hb : b.length ≤ 1000) (w : World) (hE : EnvQ w) (e : a = [99, 111, 115, 116]) : Calls Tryz.prog 15 #[.string (bstr a), .string (bstr b)] w (GaveRead (readP a b) w) := by
  subst e
  have HV : readP [99, 111, 115, 116] b = ((parseC b).map fun c => ⟨6, 0, [], [], zeroR, c⟩) := rfl
  have b1 := (bstr_is15 [99, 111, 115, 116] [98, 101, 102, 111, 114, 101]).trans (decide_eq_false (by decide))
  have b2 := (bstr_is15 [99, 111, 115, 116] [115, 105, 110, 99, 101]).trans (decide_eq_false (by decide))
  have b3 := (bstr_is15 [99, 111, 115, 116] [111, 112]).trans (decide_eq_false (by decide))
  have b4 := (bstr_is15 [99, 111, 115, 116] [112, 97, 116, 104]).trans (decide_eq_false (by decide))
  have b5 := (bstr_is15 [99, 111, 115, 116] [110, 101, 116]).trans (decide_eq_false (by decide))
  have b6 := (bstr_is15 [99, 111, 115, 116] [99, 111, 115, 116]).trans (decide_eq_true rfl)
  have ho : (⟨6, 0, [], [], zeroR, (parseC b).getD 0⟩ : Prd).Ok := cands_ok b _ (cand_mem b 5 (by omega))
  have HP := Lib.hid (show (parseC b).isSome = (readP [99, 111, 115, 116] b).isSome ∧ ∀ x, readP [99, 111, 115, 116] b = some x → (⟨6, 0, [], [], zeroR, (parseC b).getD 0⟩ : Prd) = x from ⟨by rw [HV, Option.isSome_map], fun x hx => map_gave (parseC b) 0 (fun c => ⟨6, 0, [], [], zeroR, c⟩) x (by rw [← HV]; exact hx)⟩)
  have hcon := Lib.hid (fun w' h => cparse_any b (by omega) w' h)
  clear HV
  generalize (parseC b).getD 0 = f at *
  generalize (parseC b).isSome = ok at *
  generalize readP [99, 111, 115, 116] b = o at *
  obtain ⟨Z, hZ⟩ : ∃ Z, Z = prdV zeroP none 0 := ⟨_, rfl⟩
  have hZe := hZ.trans prd_zero
  obtain ⟨w1, hw1⟩ : ∃ w1, w1 = w.alloc (.cells Z.toArray 31) := ⟨_, rfl⟩
  have r1 : Row w1 w.heap.size 31 Z := by rw [hw1]; exact Row.new w _ _
  have hb1 : Below w.heap.size w w1 := by rw [hw1]; exact (Below.refl _ w).alloc (Nat.le_refl _) _
  have HW := Lib.hid (hw1.trans (show w.alloc (.cells Z.toArray 31) = w.alloc (.cells [Value.int .i64 0, .int .u64 0, .slice none 0 0, .string { data := #[] }, .bool false, .int .u8 0, .int .u8 0, .int .u8 0, .int .u8 0, .int .u8 0, .int .u8 0, .int .u8 0, .int .u8 0, .int .u8 0, .int .u8 0, .int .u8 0, .int .u8 0, .int .u8 0, .int .u8 0, .int .u8 0, .int .u8 0, .int .i64 0, .float .f64 0].toArray 31) by rw [hZe]))
  have tok1 : True := trivial
  clear hw1
  have c0 : w1.cell? ⟨w.heap.size, 0, none⟩ = some (.int .i64 0) := by rw [r1.cell, hZe]; rfl
  have f0 := r1.free 0
  obtain ⟨w2, hw2⟩ : ∃ w2, w2 = w1.setCell ⟨w.heap.size, 0, none⟩ (.int .i64 6) := ⟨_, rfl⟩
  have r2 : Row w2 w.heap.size 31 (Z.set 0 (.int .i64 6)) := by rw [hw2]; exact r1.set 0 _
  have hb2 : Below w.heap.size w w2 := by rw [hw2]; exact hb1.grown (grown_setCell _ _ _ _) hb1.size (fun k h => by cases h; exact Nat.le_refl _)
  have hE2 := hE.next hb2
  have HW2 := Lib.hid hw2
  have tok2 : True := trivial
  have hcon := Lib.hid (hcon.out _ hE2.d)
  clear hw2 hE hE2 r1 hb1
  generalize bstr [99, 111, 115, 116] = S at *
  go_enter Tryz.func15, Tryz.ntmps15
  go_wp2_with (first
    | (have _t := tok1; rw [← HW.out]; clear tok1)
    | (have _t := tok2; rw [← HW2.out]; clear tok2)
    | (go_at_call 35; refine hcon.out.mono ?_; rintro e w3 ⟨rfl, hq3⟩; refine Hid.out ?_))
  refine Lib.hid ?_
  have r3 := r2.later hq3 r2.lt
  have hb3 := hb2.trans (hq3.mono hb2.size)
  clear hcon HW HW2 c0 f0 r2 hb2 hq3
  have c1 : w3.cell? ⟨w.heap.size, 22, none⟩ = some (.float .f64 0) := by rw [r3.cell, hZe]; rfl
  have f1 := r3.free 22
  obtain ⟨w4, hw4⟩ : ∃ w4, w4 = w3.setCell ⟨w.heap.size, 22, none⟩ (.float .f64 f) := ⟨_, rfl⟩
  obtain ⟨V, hV⟩ : ∃ V, V = prdV (⟨6, 0, [], [], zeroR, f⟩ : Prd) none 0 := ⟨_, rfl⟩
  have r4 : Row w4 w.heap.size 31 V := by
    rw [hw4, hV, show prdV (⟨6, 0, [], [], zeroR, f⟩ : Prd) none 0 = (Z.set 0 (.int .i64 6)).set 22 (.float .f64 f) by rw [hZ]; rfl]
    exact r3.set 22 _
  have hg4 : w3.grownBy w4 (some w.heap.size) := by rw [hw4]; exact grown_setCell _ _ _ _
  have hb4 := hb3.grown hg4 hb3.size (fun k h => by cases h; exact Nat.le_refl _)
  have HW4 := Lib.hid hw4
  have tok4 : True := trivial
  clear hw4 r3 hb3 hg4 hZ hZe
  have hVl := Lib.hid (show (Tryz.prog.info? 31).map (·.size) = some V.length by rw [hV, length_prdV _ ho.net.a]; exact size_prd)
  have hzV := Lib.hid (show (Tryz.prog.info? 31).map (·.size) = some V.toArray.size by rw [List.size_toArray]; exact hVl.out)
  have hV1 := Lib.hid (show V.toArray.all (·.oneCell') = true by rw [hV]; exact prdV_one _ _ _)
  have hVs := Lib.hid (show 23 = V.toArray.size by rw [List.size_toArray, hV, length_prdV _ ho.net.a])
  have HV := Lib.hid hV
  clear hV
  have Q4 := Lib.hid (show w4.heap[w.heap.size]? = some (.cells V.toArray 31 (0, 0)) from r4)
  have K4 := Lib.hid (row_range r4)
  clear r4
  go_wp2_with (first
    | (have _t := tok4; rw [← HW4.out]; clear tok4)
    | (with_reducible refine wpList_load_mid rfl 31 (.tmp 4) rfl w.heap.size 0 rfl V _ K4.out Tryz.underlying31 rfl hVl.out ?_)
    | (with_reducible refine wpList_store_row rfl 31 (.tmp 4) (.tmp 59) rfl w.heap.size V.toArray rfl rfl 31 V.toArray Q4.out hzV.out rfl hV1.out ?_; refine Hid.out ?_))
  refine Lib.hid ?_
  generalize hw8 : World.setRow _ _ _ = w8
  obtain ⟨r8, hg8⟩ := row_set (show Row w4 w.heap.size 31 V from Q4.out) hw8
  have hb8 := hb4.grown hg8 hb4.size (fun k h => by cases h; exact Nat.le_refl _)
  have R8 := Lib.hid (show w8.heap[w.heap.size]? = some (.cells V.toArray 31 (0, 0)) from r8)
  clear hw8 r8 Q4 K4
  go_wp2_with fail
  exact ⟨rfl, _, results_row_tmp rfl _ _ w.heap.size 31 V.toArray (0, 0) _ rfl R8.out Tryz.underlying31 rfl hzV.out _ rfl, (⟨6, 0, [], [], zeroR, f⟩ : Prd), none, 0, by rw [HV.out, ← HP.out.1]; rfl, prdAt_plain _ ho rfl (by show (0 : Int) ≤ 6; decide) (by show (6 : Int) ≤ 7; decide) (by show (0 : Nat) ≤ 4000; omega) _, fun g _ a ha => (by cases ha), HP.out.2, hb8⟩
theorem pread17_any (a b : List UInt8) (hb : b.length ≤ 1000) (w : World) (hE : EnvQ w) : Calls Tryz.prog 15 #[.string (bstr a), .string (bstr b)] w (GaveRead (readP a b) w) := by
  by_cases e1 : a = [98, 101, 102, 111, 114, 101]
  · exact pread_1 a b hb w hE e1
  by_cases e2 : a = [115, 105, 110, 99, 101]
  · exact pread_2 a b hb w hE e2
  by_cases e3 : a = [111, 112]
  · exact pread_3 a b hb w hE e3
  by_cases e4 : a = [112, 97, 116, 104]
  · exact pread_4 a b hb w hE e4
  by_cases e5 : a = [110, 101, 116]
  · exact pread_5 a b hb w hE e5
  by_cases e6 : a = [99, 111, 115, 116]
  · exact pread_6 a b hb w hE e6
  exact pread_0 a b hb w hE e1 e2 e3 e4 e5 e6
end Go.Proofs.YtgnhmpfoddfpdaaGreatDoor
