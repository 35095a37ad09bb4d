/- Texts of this claim, one behind the other. -/
import Derived.Test.YtimdhdimhboboaaGreatDoorRaan
import Derived.Test.YtimdhdimhboboaaGreatDoorRaam
import Derived.Lib.ParseIntBMem
import Derived.Lib.AtoiErrMem
import Derived.Great.FillDense
import Derived.Test.YtimdhdimhboboaaGreatDoorRaai
import Derived.Great.BuildSlice
import Derived.Deep.DeepCutAuto
import Derived.Deep.CutBlock
import Derived.Test.YtimdhdimhboboaaGreatDoorRaab
import Derived.Test.YtimdhdimhboboaaGreatDoorRaaf
import Derived.Lib.AppendStr
import Derived.Lib.AppendIntMem
import Derived.Lib.IndexMore
import Derived.Laws.Runes
import Derived.Laws.RangeAny
import Derived.Maps.AppendAt
import Derived.RangeFuncBox
import Derived.BigRegion
import Derived.Test.YtimdhdimhboboaaGreatDoorRaaa
import Derived.RangeFuncNested
import Derived.RangeFuncBound
import Derived.RangeFuncCalls
import Derived.RangeFuncLeaves
import Derived.Shelf.Abstract
import Derived.Shelf.RegionOpen
import Derived.WalkKit
import Derived.OwnWalkIn
import Derived.TacticsInMore
import Derived.LoopNIn
import Derived.LoopIn
import Derived.Test.YtimdhdimhboboaaGreatDoorRaak
import Derived.Lib.SliceRun
import Derived.Laws.BitsAllLaws
import Derived.Laws.FloatArith
import Derived.Laws.CopyOwn
import Derived.Laws.Cover2
import Derived.Test.YtimdhdimhboboaaGreatDoorRaah
/- LAYER 16: package lex: fit, Names, Join. -/
namespace Go.Proofs.YtimdhdimhboboaaGreatDoor
set_option maxRecDepth 100000
open Go Go.RowKit Go.Lib

/-- The name ahead of a place; none's are no bytes. -/
def aheadL (l : List (List UInt8)) : Nat → List UInt8
  | 0 => []
  | k + 1 => l.getD k []
theorem okAt_ahead (l : List (List UInt8)) (k : Nat) : okAt l k = (name16 (l.getD k []) && Op.bytesLess (aheadL l k) (l.getD k [])) := by
  cases k with
  | zero =>
    rw [okAt_zero l 0 rfl]
    cases h : name16 (l.getD 0 []) with
    | false => rfl
    | true =>
      have hne := (name16_44 _ h).1
      generalize l.getD 0 [] = s at *
      cases s with
      | nil => exact absurd rfl hne
      | cons c s => rfl
  | succ k => rw [okAt_pos l (k + 1) (by omega)]; rfl
theorem less_or (a : List UInt8) : ∀ b : List UInt8, (Op.bytesLess a b || a == b) = !Op.bytesLess b a := by
  induction a with
  | nil =>
    intro b
    cases b with
    | nil => rfl
    | cons c b => rfl
  | cons c a ih =>
    intro b
    cases b with
    | nil => rfl
    | cons d b =>
      show ((decide (c < d) || (c == d && Op.bytesLess a b)) || (c == d && a == b)) = !(decide (d < c) || (d == c && Op.bytesLess b a))
      have hlt : ∀ x y : UInt8, decide (x < y) = decide (x.toNat < y.toNat) := fun x y => rfl
      have heq : ∀ x y : UInt8, (x == y) = decide (x.toNat = y.toNat) := by
        intro x y
        rw [Bool.eq_iff_iff, beq_iff_eq, decide_eq_true_iff]
        exact UInt8.toNat_inj.symm
      rw [hlt, hlt, heq, heq]
      rcases Nat.lt_trichotomy c.toNat d.toNat with h | h | h
      · rw [decide_eq_true h, decide_eq_false (by omega : ¬ d.toNat < c.toNat), decide_eq_false (by omega : ¬ d.toNat = c.toNat)]; rfl
      · rw [decide_eq_false (by omega : ¬ c.toNat < d.toNat), decide_eq_false (by omega : ¬ d.toNat < c.toNat), decide_eq_true h, decide_eq_true h.symm]
        simpa using ih b
      · rw [decide_eq_false (by omega : ¬ c.toNat < d.toNat), decide_eq_true h, decide_eq_false (by omega : ¬ c.toNat = d.toNat)]; rfl
set_option maxHeartbeats 2000000 in
theorem xfit_any (l : List (List UInt8)) (hp : ∀ p ∈ l, p.length ≤ 100000) (hl : l.length ≤ 100000) (A : Option Addr) (c : Nat) (w : World) (hsl : Sl w A c (strsV l)) :
    Calls Tryz.prog 102 #[.slice A l.length c] w fun e w' => e = .returned (.bool (riseL l)) ∧ Below w.heap.size w w' := by
  obtain ⟨V, hV⟩ : ∃ V, V = riseL l := ⟨_, rfl⟩
  have HV := Lib.hid hV
  rw [← hV]
  clear hV
  by_cases h1 : l.length = 0
  · have HW := Lib.hid (show V = false by rw [HV.out]; unfold riseL; rw [decide_eq_false (by omega : ¬ 1 ≤ l.length)]; rfl)
    have a1 : ((l.length : Int) == 0) = true := by rw [beq_iff_eq]; omega
    clear HV h1
    go_enter Tryz.func102, Tryz.ntmps102
    go_wp2
    go_ret
    exact ⟨by rw [HW.out]; rfl, Below.refl _ _⟩
  have a1 : ((l.length : Int) == 0) = false := by rw [beq_eq_false_iff_ne]; omega
  by_cases h2 : 32 < l.length
  · have HW := Lib.hid (show V = false by rw [HV.out]; unfold riseL; rw [decide_eq_false (by omega : ¬ l.length ≤ 32), Bool.and_false]; rfl)
    have a2 : (32 : Int) < (l.length : Int) := by omega
    clear HV h1 h2
    go_enter Tryz.func102, Tryz.ntmps102
    go_wp2
    go_ret
    exact ⟨by rw [HW.out]; rfl, Below.refl _ _⟩
  have a2 : decide ((32 : Int) < (l.length : Int)) = false := decide_eq_false (by omega)
  have HT := Lib.hid (show (∀ i < l.length, okAt l i = true) → V = true from fun h => by rw [HV.out]; exact (riseL_at l).2 ⟨by omega, by omega, h⟩)
  have HFa := Lib.hid (show ∀ i, i < l.length → okAt l i = false → V = false from fun i hi h => by rw [HV.out]; exact riseL_bad l i hi h)
  have hnm := Lib.hid (fun s (h : s ∈ l) w' => xname_any s (hp s h) w')
  clear HV h1 h2 hp
  go_enter Tryz.func102, Tryz.ntmps102
  go_wp2
  clear a1 a2
  go_loopw [3, 16] (fun v i wr => ∃ k : Nat, k ≤ l.length ∧ v = .string (bstr (aheadL l k)) ∧ i = .int .i64 k ∧ (∀ j < k, okAt l j = true) ∧ Below w.heap.size w wr) (fun _ i _ => l.length - (intOf i).toNat)
  case atStart => exact ⟨0, by omega, rfl, rfl, fun j hj => by omega, Below.refl _ _⟩
  case round =>
    obtain ⟨k, hk, rfl, rfl, hf, hbr⟩ := hrel
    by_cases hlt : k < l.length
    · have hlt' : (k : Int) < (l.length : Int) := by omega
      obtain ⟨b, o, rfl, -, -⟩ := hsl.rd.get (i := k) (by rw [length_strsV]; exact hlt)
      have hix := index_strs (some ⟨b, o, none⟩) b o l.length c k rfl hlt
      have hce := strs_cell (hsl.later (Nat.le_refl _) hbr) k hlt
      have HF := Lib.hid hf
      have HC := Lib.hid (hnm.out (l.getD k []) (by rw [List.getD_eq_getElem?_getD, List.getElem?_eq_getElem hlt]; exact List.getElem_mem hlt))
      have HA := Lib.hid (okAt_ahead l k)
      have HB := Lib.hid (HFa.out k hlt)
      have hnx : aheadL l (k + 1) = l.getD k [] := rfl
      have HX := Lib.hid hnx
      have HL := Lib.hid (show (Op.bytesLess (bstr (l.getD k [])).toList (bstr (aheadL l k)).toList || (bstr (l.getD k [])).toList == (bstr (aheadL l k)).toList) = !Op.bytesLess (aheadL l k) (l.getD k []) by rw [bstr_toList, bstr_toList]; exact less_or _ _)
      clear hf hnx
      generalize l.getD k [] = s at *
      generalize aheadL l k = s1 at *
      cases hsg : name16 s with
      | true =>
        cases hle : Op.bytesLess s1 s with
        | true =>
          have HN := Lib.hid (okAt_next l k HF.out (by rw [HA.out, hsg, hle]; rfl))
          have hle2 := HL.out.trans (congrArg (!·) hle)
          obtain ⟨p1, p2⟩ := Bool.or_eq_false_iff.1 hle2
          rw [hsg] at HC
          clear HA hsg HB HL hle hle2
          go_wp2_with (go_at_call 138; refine (HC.out _).mono ?_; rintro e w' ⟨rfl, hq⟩; have hq := hbr.trans (hq.mono hbr.size))
          go_roundw
          case rel => exact ⟨k + 1, by omega, by rw [HX.out], by go_num, HN.out, hq⟩
          case measure => simp [intOf]; omega
        | false =>
          have HN := Lib.hid (HB.out (by rw [HA.out, hsg, hle]; rfl))
          have hle2 := HL.out.trans (congrArg (!·) hle)
          rw [hsg] at HC
          clear HA hsg HB HL hle
          rcases hp1 : Op.bytesLess (bstr s).toList (bstr s1).toList with _ | _
          · rw [hp1, Bool.false_or] at hle2
            go_wp2_with (go_at_call 138; refine (HC.out _).mono ?_; rintro e w' ⟨rfl, hq⟩; have hq := hbr.trans (hq.mono hbr.size))
            go_ret
            exact ⟨by rw [HN.out]; rfl, hq⟩
          · clear hle2
            go_wp2_with (go_at_call 138; refine (HC.out _).mono ?_; rintro e w' ⟨rfl, hq⟩; have hq := hbr.trans (hq.mono hbr.size))
            go_ret
            exact ⟨by rw [HN.out]; rfl, hq⟩
      | false =>
        have HN := Lib.hid (HB.out (by rw [HA.out, hsg]; rfl))
        rw [hsg] at HC
        clear HA hsg HB HL
        go_wp2_with (go_at_call 138; refine (HC.out _).mono ?_; rintro e w' ⟨rfl, hq⟩; have hq := hbr.trans (hq.mono hbr.size))
        go_ret
        exact ⟨by rw [HN.out]; rfl, hq⟩
    · obtain rfl : k = l.length := by omega
      have HN := Lib.hid (HT.out hf)
      clear hf
      go_wp2
      go_ret
      exact ⟨by rw [HN.out]; rfl, hbr⟩
/-! The library's Join. -/
end Go.Proofs.YtimdhdimhboboaaGreatDoor

/- LAYER 16: the document's Number. -/
namespace Go.Proofs.YtimdhdimhboboaaGreatDoor
set_option maxRecDepth 100000
open Go Go.RowKit

/-- What Number answers. -/
def numAns (o : Option Nat) : Value := .tuple #[.int .u64 ((o.getD 0 : Nat) : Int), .bool o.isSome]
end Go.Proofs.YtimdhdimhboboaaGreatDoor

/- LAYER 16: package lex: Number. -/
namespace Go.Proofs.YtimdhdimhboboaaGreatDoor
set_option maxRecDepth 100000
open Go Go.RowKit

/-- What the listed variables hold, as far as a text's number comes to them. -/
structure EnvN (w : World) : Prop where
  most : EnvX w
  pow : Lib.TabIs Tryz.prog w "internal/strconv.uint64pow10" .u64 Lib.pow10Tab
  synt : ∃ v, w.cell? ⟨4, 0, none⟩ = some v ∧ (v = .nilIface ∨ ∃ t p, v = .iface t p)
  rang : ∃ v, w.cell? ⟨5, 0, none⟩ = some v ∧ (v = .nilIface ∨ ∃ t p, v = .iface t p)
theorem EnvN.next {w w' : World} (h : EnvN w) (hb : Below w.heap.size w w') : EnvN w' := by
  obtain ⟨hm, hp, ⟨v, hv, h1⟩, ⟨u, hu, h2⟩⟩ := h
  exact ⟨hm.next hb, Joins.tab_stays gPow hp hb (Nat.le_refl _), ⟨v, cell_later16 hv (Nat.le_refl _) hb, h1⟩, ⟨u, cell_later16 hu (Nat.le_refl _) hb, h2⟩⟩
theorem toErr16 (fn s : ByteArray) (b n : Int) (hs : s.size ≤ 281474976710656) (w : World) (hE : EnvN w) (k : Int) (hk : k = 1 ∨ k = 2) :
    Calls Tryz.prog 136 #[.string fn, .string s, .int .i64 b, .int .i64 n, .iface 211 (.int .i64 k)] w (GaveAny w) := by
  rcases hk with rfl | rfl
  · obtain ⟨v, h1, h2⟩ := hE.rang
    refine (Tryz.strconv_toError_range fn s b n v w hs h1 h2).mono ?_
    rintro e w' ⟨N, rfl, -, -, hb⟩
    exact ⟨_, rfl, hb⟩
  · obtain ⟨v, h1, h2⟩ := hE.synt
    refine (Tryz.strconv_toError_syntax fn s b n v w hs h1 h2).mono ?_
    rintro e w' ⟨N, rfl, -, -, hb⟩
    exact ⟨_, rfl, hb⟩
/-- The library's inner ParseUint, for 64 bits. -/
theorem ipu64_any (l : List UInt8) (hl : l.length ≤ 100000) (w : World) :
    ∃ c : Nat, (c = 0 ∨ c = 1 ∨ c = 2) ∧ Calls Tryz.prog 135 #[.string (bstr l), .int .i64 10, .int .i64 64] w fun e w' => e = .returned (.tuple #[.int .u64 (puX l : Nat), errV c]) ∧ Below w.heap.size w w' := by
  have h := Tryz.internal_strconv_ParseUint_10_at64 (bstr l) (by rw [size_bstr]; omega) w
  have hb : ∀ w' : World, (w' = w ∨ w' = Lib.bytesWorld w 5 (bstr l)) → Below w.heap.size w w' := by
    rintro w' (rfl | rfl)
    · exact Below.refl _ _
    · exact Lib.bytesWorld_below _ _ _
  have e0 : (bstr l).data.toList = l := rfl
  rw [e0] at h
  unfold puX
  cases hp : Lib.parseUintB 64 l with
  | ok v =>
    rw [hp] at h
    exact ⟨0, .inl rfl, h.mono fun e w' ⟨he, hw⟩ => ⟨he, hb w' hw⟩⟩
  | range =>
    rw [hp] at h
    exact ⟨1, .inr (.inl rfl), h.mono fun e w' ⟨he, hw⟩ => ⟨he, hb w' hw⟩⟩
  | _ =>
    rw [hp] at h
    exact ⟨2, .inr (.inr rfl), h.mono fun e w' ⟨he, hw⟩ => ⟨he, hb w' hw⟩⟩
theorem errV_1x : errV 1 = .iface 211 (.int .i64 1) := rfl
theorem errV_2x : errV 2 = .iface 211 (.int .i64 2) := rfl
set_option maxHeartbeats 2000000 in
theorem pu64_any (l : List UInt8) (hl : l.length ≤ 100000) (w : World) (hE : EnvN w) :
    Calls Tryz.prog 99 #[.string (bstr l), .int .i64 10, .int .i64 64] w (GavePu (puX l) w) := by
  obtain ⟨c, hc, hi⟩ := ipu64_any l hl w
  have hsz : (bstr l).size ≤ 281474976710656 := by rw [size_bstr]; omega
  have hts := Lib.hid (fun fn w' (h : Below w.heap.size w w') k hk => toErr16 fn (bstr l) 10 64 hsz w' (hE.next h) k hk)
  generalize puX l = n at *
  clear hE hl hsz
  rcases hc with rfl | rfl | rfl
  · rw [show errV 0 = .nilIface from rfl] at hi
    have hi := Lib.hid hi
    go_enter Tryz.func99, Tryz.ntmps99
    go_wp2_with (go_at_call 135; refine hi.out.mono ?_; rintro e w' ⟨rfl, hb1⟩)
    go_ret2
    exact ⟨_, rfl, hb1⟩
  · rw [errV_1x] at hi
    have hi := Lib.hid hi
    go_enter Tryz.func99, Tryz.ntmps99
    go_wp2_with (first
      | (go_at_call 135; refine hi.out.mono ?_; rintro e w' ⟨rfl, hb1⟩)
      | (go_at_call 136; refine (hts.out _ _ hb1 1 (.inl rfl)).mono ?_; rintro e w2 ⟨v, rfl, hb2⟩; have hb2 := hb1.trans (hb2.mono hb1.size)))
    go_ret2
    exact ⟨_, rfl, hb2⟩
  · rw [errV_2x] at hi
    have hi := Lib.hid hi
    go_enter Tryz.func99, Tryz.ntmps99
    go_wp2_with (first
      | (go_at_call 135; refine hi.out.mono ?_; rintro e w' ⟨rfl, hb1⟩)
      | (go_at_call 136; refine (hts.out _ _ hb1 2 (.inr rfl)).mono ?_; rintro e w2 ⟨v, rfl, hb2⟩; have hb2 := hb1.trans (hb2.mono hb1.size)))
    go_ret2
    exact ⟨_, rfl, hb2⟩
set_option maxHeartbeats 2000000 in
theorem xnumber_any (s : List UInt8) (hs : s.length ≤ 2100) (w : World) (hE : EnvN w) : Calls Tryz.prog 69 #[.string (bstr s)] w fun e w' => e = .returned (numAns (numberL s)) ∧ Below w.heap.size w w' := by
  have hpu := Lib.hid (pu64_any s (by omega) w hE)
  have hlt := puX_lt s
  have HV := Lib.hid (number_pu s)
  have hfm := Lib.hid (fun w' (h : Below w.heap.size w w') => fmt10_q (puX s) hlt w' (hE.next h).pow)
  have he := bstr_beq (numL 10 (puX s)) s
  generalize numberL s = V at *
  generalize puX s = n at *
  generalize numL 10 n = ds at *
  by_cases h : ds = s
  · have HW := Lib.hid (HV.out.trans (if_pos h))
    rw [decide_eq_true h] at he
    clear HV h hE hs
    go_enter Tryz.func69, Tryz.ntmps69
    go_wp2_with (first
      | (go_at_call 99; refine hpu.out.mono ?_; rintro e w1 ⟨v, rfl, hb1⟩)
      | (go_at_call 100; refine (hfm.out _ hb1).mono ?_; rintro e w2 ⟨rfl, hb2⟩; have hb2 := hb1.trans (hb2.mono hb1.size)))
    go_ret2
    exact ⟨by rw [HW.out]; rfl, hb2⟩
  · have HW := Lib.hid (HV.out.trans (if_neg h))
    rw [decide_eq_false h] at he
    clear HV h hE hs
    go_enter Tryz.func69, Tryz.ntmps69
    go_wp2_with (first
      | (go_at_call 99; refine hpu.out.mono ?_; rintro e w1 ⟨v, rfl, hb1⟩)
      | (go_at_call 100; refine (hfm.out _ hb1).mono ?_; rintro e w2 ⟨rfl, hb2⟩; have hb2 := hb1.trans (hb2.mono hb1.size)))
    go_ret2
    exact ⟨by rw [HW.out]; rfl, hb2⟩
end Go.Proofs.YtimdhdimhboboaaGreatDoor

/- LAYER 14: package path's Normal. -/
namespace Go.Proofs.YtimdhdimhboboaaGreatDoor
set_option maxRecDepth 100000
open Go Go.RowKit

attribute [local go_sem] Oper.semAt_some
end Go.Proofs.YtimdhdimhboboaaGreatDoor

/- LAYER 17: package caveat: what the listed variables hold; told. -/
namespace Go.Proofs.YtimdhdimhboboaaGreatDoor
set_option maxRecDepth 100000
open Go Go.RowKit

/-- What the listed variables hold, as far as package caveat comes to them. -/
def EnvQ (w : World) : Prop := EnvD w
theorem EnvQ.next {w w' : World} (h : EnvQ w) (hb : Below w.heap.size w w') : EnvQ w' := EnvD.next h hb
theorem EnvQ.d {w : World} (h : EnvQ w) : EnvD w := h
theorem EnvQ.x {w : World} (h : EnvQ w) : EnvX w := EnvD.most h
theorem EnvQ.n {w : World} (h : EnvQ w) : EnvN w := ⟨EnvD.most h, (EnvD.toEnvC h).pow, EnvD.synt h, EnvD.rang h⟩
theorem EnvQ.a {w : World} (h : EnvQ w) : Env w := ⟨EnvD.most h, (EnvD.toEnvC h).pow, (EnvD.toEnvC h).tz 15 (by decide), EnvD.synt h, EnvD.rang h⟩
end Go.Proofs.YtimdhdimhboboaaGreatDoor

/- LAYER 17: what the document's Parse goes through: the six predicates that a text may say, as lists. -/
namespace Go.Proofs.YtimdhdimhboboaaGreatDoor
set_option maxRecDepth 100000
open Go Go.RowKit

theorem glue_sum (x : UInt8) (l : List (List UInt8)) (h : l ≠ []) : sumS l = (glueL x l).length + 1 := by
  induction l with
  | nil => exact absurd rfl h
  | cons p l ih =>
    cases l with
    | nil => show (p.length + 1 + 0) = p.length + 1; rfl
    | cons q l =>
      have := ih (by simp)
      show p.length + 1 + sumS (q :: l) = (p ++ x :: glueL x (q :: l)).length + 1
      rw [this, List.length_append, List.length_cons]; omega
theorem names_sum17 (s : List UInt8) (h : s.length ≤ 3999) : sumS ((namesC s).getD []) ≤ 4000 := by
  unfold namesC
  split
  · show sumS (splitL 44 s) ≤ 4000
    have h1 := glue_sum 44 (splitL 44 s) (splitL_ne 44 s)
    rw [glueL_split 44 s] at h1
    omega
  · decide
/-- The six, one by one; where the third one's names lie. -/
theorem cands_len (b : List UInt8) : (candsP b).length = 6 := rfl
def candQ (b : List UInt8) (j : Nat) : Prd := (candsP b).getD j zeroP
theorem cand_mem (b : List UInt8) (j : Nat) (h : j < 6) : candQ b j ∈ candsP b := by
  unfold candQ
  rw [List.getD_eq_getElem?_getD, List.getElem?_eq_getElem (by rw [cands_len]; exact h)]
  exact List.getElem_mem _
theorem parsR_out (o : Option Rng) : parsR o = .tuple #[.agg (rngV (o.getD zeroR)).toArray, .bool o.isSome] := by cases o <;> rfl
/-- What a call answers that reads a predicate: the predicate, where there is one, and whether. -/
def GavePrd (o : Option Prd) (w : World) (e : Ending) (w' : World) : Prop :=
  ∃ (A : Option Addr) (c : Nat), e = .returned (.tuple #[.agg (prdV (o.getD zeroP) A c).toArray, .bool o.isSome]) ∧ PrdAt w' (o.getD zeroP) A c ∧ Below w.heap.size w w'
theorem zero_at (w : World) : PrdAt w zeroP none 0 := ⟨zeroP_ok, sl_none16 w, by decide, by decide, by decide, by decide⟩
theorem PrdAt.apart {w w' : World} {p : Prd} {A : Option Addr} {c g : Nat} (h : PrdAt w p A c) (hg : w.grownBy w' (some g)) (hne : ∀ a, A = some a → a.block ≠ g) : PrdAt w' p A c :=
  ⟨h.ok, h.names.apart hg (fun _ => hne), h.lo, h.hi, h.path, h.sum⟩
/-- Names, once more: what it answers lies in no block that was there. -/
def GaveRowF (o : Option (List (List UInt8))) (w : World) (e : Ending) (w' : World) : Prop :=
  ∃ (A : Option Addr) (c : Nat), e = .returned (.tuple #[.slice A (o.getD []).length c, .bool o.isSome]) ∧ Sl w' A c (strsV (o.getD [])) ∧ (∀ g, g < w.heap.size → ∀ a, A = some a → a.block ≠ g) ∧ Below w.heap.size w w'
end Go.Proofs.YtimdhdimhboboaaGreatDoor

/- LAYER 17: predicates built, and rows of them. -/
namespace Go.Proofs.YtimdhdimhboboaaGreatDoor
set_option maxRecDepth 100000
open Go Go.RowKit

theorem prdV_one (p : Prd) (A : Option Addr) (c : Nat) : (prdV p A c).toArray.all (·.oneCell') = true := by
  have h := rngV_one' p.net
  rw [List.all_toArray] at h ⊢
  unfold prdV
  rw [List.all_append, List.all_append, h]; rfl
theorem prd_zero : prdV zeroP none 0 = [Value.int .i64 0, .int .u64 0, .slice none 0 0, .string { data := #[] }, .bool false, .int .u8 0, .int .u8 0, .int .u8 0, .int .u8 0, .int .u8 0, .int .u8 0, .int .u8 0, .int .u8 0, .int .u8 0, .int .u8 0, .int .u8 0, .int .u8 0, .int .u8 0, .int .u8 0, .int .u8 0, .int .u8 0, .int .i64 0, .float .f64 0] := rfl
end Go.Proofs.YtimdhdimhboboaaGreatDoor

/- LAYER 17: package caveat: read. -/
namespace Go.Proofs.YtimdhdimhboboaaGreatDoor
set_option maxRecDepth 100000
open Go Go.RowKit

@[go_sem] theorem run_store_float {P : Program} {w : World} {a : Addr} (k : FloatKind) (b : Nat) (m : Mode) : (store a (.float k b) m).run P w = stored P w a (.float k b) m := run_store P w a _ m rfl
theorem xsplitN_own (s : List UInt8) (hs : s.length ≤ 100000) (w : World) (hE : EnvX w) : ∃ ps : List (List UInt8), namesC s = (if riseL ps = true then some ps else none) ∧ (∀ p ∈ ps, p.length ≤ s.length) ∧ ps.length ≤ 33 ∧
    Calls Tryz.prog 101 #[.string (bstr s), .string ⟨#[44]⟩, .int .i64 33] w fun e w' => ∃ A c, e = .returned (.slice A ps.length c) ∧ Sl w' A c (strsV ps) ∧ (∀ g, g < w.heap.size → ∀ a, A = some a → a.block ≠ g) ∧ Below w.heap.size w w' := by
  obtain ⟨m, hm⟩ := hE
  have h := Tryz.strings_SplitN (bstr s) (bstr [44]) 33 m w (by rw [size_bstr]; omega) hm (Nat.le_refl 1) (by omega) (by omega)
  rw [size_bstr] at h
  obtain ⟨ps, e1, e2, e3, e4⟩ := splitN_names s
  rw [e1, List.length_map] at h
  refine ⟨ps, e2, e3, by omega, h.mono ?_⟩
  rintro e w' ⟨rfl, rfl⟩
  have e5 : Lib.cellsOf (ps.map bstr) (min 33 (s.length + 1)) = (strsV ps ++ List.replicate (min 33 (s.length + 1) - ps.length) (Value.string ByteArray.empty)).toArray := by
    unfold Lib.cellsOf strsV
    rw [List.map_map, List.length_map]; rfl
  rw [e5]
  exact ⟨_, _, rfl, (sl_made (t := 9) _ rfl (min 33 (s.length + 1)) (by rw [List.length_append, length_strsV, List.length_replicate]; omega)).pre, (fun g hg a ha => by cases ha; exact Nat.ne_of_gt hg), (Below.refl _ w).alloc (Nat.le_refl _) _⟩
set_option maxHeartbeats 2000000 in
theorem xnames_own (s : List UInt8) (hs : s.length ≤ 2100) (w : World) (hE : EnvX w) : Calls Tryz.prog 70 #[.string (bstr s)] w (GaveRowF (namesC s) w) := by
  have hz := size_bstr s
  obtain ⟨ps, hv, hp, hlen, hsp⟩ := xsplitN_own s (by omega) w hE
  have hsp := Lib.hid hsp
  have hri := Lib.hid (fun A c w' => xfit_any ps (fun p hq => by have := hp p hq; omega) (by omega) A c w')
  have HV := Lib.hid hv
  generalize namesC s = V at *
  clear hE hs hlen hv hp
  cases hr : riseL ps with
  | true =>
    have HW := Lib.hid (HV.out.trans (if_pos hr))
    rw [hr] at hri
    clear HV hr
    go_enter Tryz.func70, Tryz.ntmps70
    go_wp2_with (first
      | (go_at_call 101; refine hsp.out.mono ?_; rintro e w1 ⟨A, c, rfl, hsl, hap, hb1⟩; have hap := Lib.hid hap)
      | (go_at_call 102; refine (hri.out A c w1 hsl).mono ?_; rintro e w' ⟨rfl, hq⟩; have hsl := hsl.later (Nat.le_refl _) hq; have hb2 := hb1.trans (hq.mono hb1.size)))
    go_ret2
    exact ⟨A, c, by rw [HW.out]; rfl, by rw [HW.out]; exact hsl, hap.out, hb2⟩
  | false =>
    have HW := Lib.hid (HV.out.trans (if_neg (by rw [hr]; decide)))
    rw [hr] at hri
    clear HV hr
    go_enter Tryz.func70, Tryz.ntmps70
    go_wp2_with (first
      | (go_at_call 101; refine hsp.out.mono ?_; rintro e w1 ⟨A, c, rfl, hsl, hap, hb1⟩; have hap := Lib.hid hap)
      | (go_at_call 102; refine (hri.out A c w1 hsl).mono ?_; rintro e w' ⟨rfl, hq⟩; have hb2 := hb1.trans (hq.mono hb1.size)))
    go_ret2
    exact ⟨none, 0, by rw [HW.out]; rfl, by rw [HW.out]; exact sl_none16 _, fun g _ a ha => (by cases ha), hb2⟩
theorem map_gave {α : Type} (o : Option α) (z : α) (f : α → Prd) (x : Prd) (h : o.map f = some x) : f (o.getD z) = x := by
  cases o with
  | none => cases h
  | some a => exact Option.some.inj h
theorem prdAt_plain (q : Prd) (ho : q.Ok) (hn : q.names = []) (h0 : 0 ≤ q.kind) (h7 : q.kind ≤ 7) (hp : q.path.length ≤ 4000) (w : World) : PrdAt w q none 0 :=
  ⟨ho, by rw [hn]; exact sl_none16 w, by omega, by omega, hp, by rw [hn]; show (0 : Nat) ≤ 4000; omega⟩
/-- What a call answers that reads two words. -/
def GaveRead (o : Option Prd) (w : World) (e : Ending) (w' : World) : Prop :=
  ∃ (q : Prd) (A : Option Addr) (c : Nat), e = .returned (.tuple #[.agg (prdV q A c).toArray, .bool o.isSome]) ∧ PrdAt w' q A c ∧ (∀ g, g < w.heap.size → ∀ a, A = some a → a.block ≠ g) ∧ (∀ x, o = some x → q = x) ∧ Below w.heap.size w w'

set_option maxHeartbeats 4000000 in
theorem pread_if (a b : List UInt8) (hb : b.length ≤ 1000) (hpr : a = [112, 97, 116, 104] → ∀ w', Calls Tryz.prog 71 #[.string (bstr b)] w' fun e w'' => e = .returned (.bool (rightL b)) ∧ Below w'.heap.size w' w'')
    (hne : a = [110, 101, 116] → ∀ w', Env w' → Calls Tryz.prog 72 #[.string (bstr b)] w' fun e w'' => e = .returned (parsR (parseR b)) ∧ Below w'.heap.size w' w'')
    (hco : a = [99, 111, 115, 116] → ∀ w', EnvD w' → Calls Tryz.prog 73 #[.string (bstr b)] w' fun e w'' => e = .returned (.tuple #[.float .f64 ((parseC b).getD 0), .bool (parseC b).isSome]) ∧ Below w'.heap.size w' w'')
    (w : World) (hE : EnvQ w) : Calls Tryz.prog 50 #[.string (bstr a), .string (bstr b)] w (GaveRead (readP a b) w) := by
  replace hpr := Lib.hid hpr
  replace hne := Lib.hid hne
  replace hco := Lib.hid hco
  obtain ⟨Z, hZ⟩ : ∃ Z, Z = prdV zeroP none 0 := ⟨_, rfl⟩
  have hZe := hZ.trans prd_zero
  obtain ⟨w1, hw1⟩ : ∃ w1, w1 = w.alloc (.cells Z.toArray 70) := ⟨_, rfl⟩
  have r1 : Row w1 w.heap.size 70 Z := by rw [hw1]; exact Row.new w _ _
  have hb1 : Below w.heap.size w w1 := by rw [hw1]; exact (Below.refl _ w).alloc (Nat.le_refl _) _
  have HW := Lib.hid (hw1.trans (show w.alloc (.cells Z.toArray 70) = w.alloc (.cells [Value.int .i64 0, .int .u64 0, .slice none 0 0, .string { data := #[] }, .bool false, .int .u8 0, .int .u8 0, .int .u8 0, .int .u8 0, .int .u8 0, .int .u8 0, .int .u8 0, .int .u8 0, .int .u8 0, .int .u8 0, .int .u8 0, .int .u8 0, .int .u8 0, .int .u8 0, .int .u8 0, .int .u8 0, .int .i64 0, .float .f64 0].toArray 70) by rw [hZe]))
  have tok1 : True := trivial
  obtain ⟨o, HO⟩ : ∃ o, o = readP a b := ⟨_, rfl⟩
  rw [← HO]
  replace HO := Lib.hid HO
  replace hZ := Lib.hid hZ
  replace hZe := Lib.hid hZe
  have c0 : w1.cell? ⟨w.heap.size, 0, none⟩ = some (.int .i64 0) := by rw [r1.cell, hZe.out]; rfl
  have f0 := r1.free 0
  clear hw1
  go_enter Tryz.func50, Tryz.ntmps50
  go_upto_block 0 with (have _t := tok1; rw [← HW.out]; clear tok1)
  clear HW
  go_cut [5] (fun y wx => ∃ q A c, y = .bool o.isSome ∧ Row wx w.heap.size 70 (prdV q A c) ∧ PrdAt wx q A c ∧ (∀ g, g ≤ w.heap.size → ∀ a, A = some a → a.block ≠ g) ∧ (∀ x, o = some x → q = x) ∧ Below w.heap.size w wx)
  case first =>
    replace HO := HO.out
    by_cases e1 : a = [98, 101, 102, 111, 114, 101]
    · subst e1
      have HV : readP [98, 101, 102, 111, 114, 101] b = ((numberL b).map fun n => ⟨1, n, [], [], zeroR, 0⟩) := rfl
      rw [HV] at HO
      have b1 := (bstr_is15 [98, 101, 102, 111, 114, 101] [98, 101, 102, 111, 114, 101]).trans (decide_eq_true rfl)
      have ho : (⟨1, (numberL b).getD 0, [], [], zeroR, 0⟩ : Prd).Ok := ⟨zeroR_ok, numberL_lt b, by show (0 : Nat) < 2 ^ 64; decide⟩
      have HP := Lib.hid (show (numberL b).isSome = o.isSome ∧ ∀ x, o = some x → (⟨1, (numberL b).getD 0, [], [], zeroR, 0⟩ : Prd) = x from ⟨by rw [HO, Option.isSome_map], fun x hx => map_gave (numberL b) 0 (fun n => ⟨1, n, [], [], zeroR, 0⟩) x (by rw [← HO]; exact hx)⟩)
      have hcon := fun w' h => xnumber_any b (by omega) w' h
      rw [show numAns (numberL b) = .tuple #[.int .u64 (((numberL b).getD 0 : Nat) : Int), .bool (numberL b).isSome] from rfl] at hcon
      have hcon := Lib.hid hcon
      clear HV HO
      generalize (numberL b).getD 0 = n at *
      generalize (numberL b).isSome = ok at *
      generalize bstr [98, 101, 102, 111, 114, 101] = S at *
      go_wp2_with (first
        | (go_at_call 69; refine (hcon.out _ (hE.next (hb1.setCell (p := ⟨w.heap.size, 0, none⟩) (Nat.le_refl _) (.int .i64 1))).n).mono ?_; rintro e w3 ⟨rfl, hq3⟩; have r3 := (r1.set 0 (.int .i64 1)).later hq3 (r1.set 0 (.int .i64 1)).lt; have hb3 := (hb1.setCell (p := ⟨w.heap.size, 0, none⟩) (Nat.le_refl _) (.int .i64 1)).trans (hq3.mono (hb1.setCell (p := ⟨w.heap.size, 0, none⟩) (Nat.le_refl _) (.int .i64 1)).size); have c1 : w3.cell? ⟨w.heap.size, 1, none⟩ = some (.int .u64 0) := (by rw [r3.cell, hZe.out]; rfl); have f1 := r3.free 1; clear hq3))
      go_meet
      case rel => exact ⟨(⟨1, n, [], [], zeroR, 0⟩ : Prd), none, 0, by rw [← HP.out.1], (show prdV (⟨1, n, [], [], zeroR, 0⟩ : Prd) none 0 = (Z.set 0 (.int .i64 1)).set 1 (.int .u64 (n : Int)) by rw [hZ.out]; rfl) ▸ r3.set 1 _, prdAt_plain _ ho rfl (by show (0 : Int) ≤ 1; decide) (by show (1 : Int) ≤ 7; decide) (by show (0 : Nat) ≤ 4000; omega) _, fun g _ a ha => (by cases ha), HP.out.2, hb3.setCell (p := ⟨w.heap.size, 1, none⟩) (Nat.le_refl _) _⟩
    by_cases e2 : a = [115, 105, 110, 99, 101]
    · subst e2
      have HV : readP [115, 105, 110, 99, 101] b = ((numberL b).map fun n => ⟨2, n, [], [], zeroR, 0⟩) := rfl
      rw [HV] at HO
      have b1 := (bstr_is15 [115, 105, 110, 99, 101] [98, 101, 102, 111, 114, 101]).trans (decide_eq_false (by decide))
      have b2 := (bstr_is15 [115, 105, 110, 99, 101] [115, 105, 110, 99, 101]).trans (decide_eq_true rfl)
      have ho : (⟨2, (numberL b).getD 0, [], [], zeroR, 0⟩ : Prd).Ok := ⟨zeroR_ok, numberL_lt b, by show (0 : Nat) < 2 ^ 64; decide⟩
      have HP := Lib.hid (show (numberL b).isSome = o.isSome ∧ ∀ x, o = some x → (⟨2, (numberL b).getD 0, [], [], zeroR, 0⟩ : Prd) = x from ⟨by rw [HO, Option.isSome_map], fun x hx => map_gave (numberL b) 0 (fun n => ⟨2, n, [], [], zeroR, 0⟩) x (by rw [← HO]; exact hx)⟩)
      have hcon := fun w' h => xnumber_any b (by omega) w' h
      rw [show numAns (numberL b) = .tuple #[.int .u64 (((numberL b).getD 0 : Nat) : Int), .bool (numberL b).isSome] from rfl] at hcon
      have hcon := Lib.hid hcon
      clear HV HO
      generalize (numberL b).getD 0 = n at *
      generalize (numberL b).isSome = ok at *
      generalize bstr [115, 105, 110, 99, 101] = S at *
      go_wp2_with (first
        | (go_at_call 69; refine (hcon.out _ (hE.next (hb1.setCell (p := ⟨w.heap.size, 0, none⟩) (Nat.le_refl _) (.int .i64 2))).n).mono ?_; rintro e w3 ⟨rfl, hq3⟩; have r3 := (r1.set 0 (.int .i64 2)).later hq3 (r1.set 0 (.int .i64 2)).lt; have hb3 := (hb1.setCell (p := ⟨w.heap.size, 0, none⟩) (Nat.le_refl _) (.int .i64 2)).trans (hq3.mono (hb1.setCell (p := ⟨w.heap.size, 0, none⟩) (Nat.le_refl _) (.int .i64 2)).size); have c1 : w3.cell? ⟨w.heap.size, 1, none⟩ = some (.int .u64 0) := (by rw [r3.cell, hZe.out]; rfl); have f1 := r3.free 1; clear hq3))
      go_meet
      case rel => exact ⟨(⟨2, n, [], [], zeroR, 0⟩ : Prd), none, 0, by rw [← HP.out.1], (show prdV (⟨2, n, [], [], zeroR, 0⟩ : Prd) none 0 = (Z.set 0 (.int .i64 2)).set 1 (.int .u64 (n : Int)) by rw [hZ.out]; rfl) ▸ r3.set 1 _, prdAt_plain _ ho rfl (by show (0 : Int) ≤ 2; decide) (by show (2 : Int) ≤ 7; decide) (by show (0 : Nat) ≤ 4000; omega) _, fun g _ a ha => (by cases ha), HP.out.2, hb3.setCell (p := ⟨w.heap.size, 1, none⟩) (Nat.le_refl _) _⟩
    by_cases e3 : a = [111, 112]
    · subst e3
      have HV : readP [111, 112] b = ((namesC b).map fun l => ⟨3, 0, l, [], zeroR, 0⟩) := rfl
      rw [HV] at HO
      have b1 := (bstr_is15 [111, 112] [98, 101, 102, 111, 114, 101]).trans (decide_eq_false (by decide))
      have b2 := (bstr_is15 [111, 112] [115, 105, 110, 99, 101]).trans (decide_eq_false (by decide))
      have b3 := (bstr_is15 [111, 112] [111, 112]).trans (decide_eq_true rfl)
      have hsum := names_sum17 b (by omega)
      have ho : (⟨3, 0, (namesC b).getD [], [], zeroR, 0⟩ : Prd).Ok := ⟨zeroR_ok, by show (0 : Nat) < 2 ^ 64; decide, by show (0 : Nat) < 2 ^ 64; decide⟩
      have HP := Lib.hid (show (namesC b).isSome = o.isSome ∧ ∀ x, o = some x → (⟨3, 0, (namesC b).getD [], [], zeroR, 0⟩ : Prd) = x from ⟨by rw [HO, Option.isSome_map], fun x hx => map_gave (namesC b) [] (fun l => ⟨3, 0, l, [], zeroR, 0⟩) x (by rw [← HO]; exact hx)⟩)
      have hcon := fun w' h => xnames_own b (by omega) w' h
      unfold GaveRowF at hcon
      have hcon := Lib.hid hcon
      clear HV HO
      generalize (namesC b).getD [] = l at *
      generalize (namesC b).isSome = ok at *
      generalize bstr [111, 112] = S at *
      go_wp2_with (first
        | (go_at_call 70; refine (hcon.out _ (hE.next (hb1.setCell (p := ⟨w.heap.size, 0, none⟩) (Nat.le_refl _) (.int .i64 3))).x).mono ?_; rintro e w3 ⟨A, c, rfl, sl3, hap, hq3⟩; have r3 := (r1.set 0 (.int .i64 3)).later hq3 (r1.set 0 (.int .i64 3)).lt; have hb3 := (hb1.setCell (p := ⟨w.heap.size, 0, none⟩) (Nat.le_refl _) (.int .i64 3)).trans (hq3.mono (hb1.setCell (p := ⟨w.heap.size, 0, none⟩) (Nat.le_refl _) (.int .i64 3)).size); have HAP := Lib.hid (fun g (hg : g ≤ w.heap.size) => hap g (Nat.lt_of_le_of_lt hg (r1.set 0 (.int .i64 3)).lt)); have SL3 := Lib.hid sl3; clear sl3 hap; have c1 : w3.cell? ⟨w.heap.size, 2, none⟩ = some (.slice none 0 0) := (by rw [r3.cell, hZe.out]; rfl); have f1 := r3.free 2; clear hq3))
      go_meet
      case rel => exact ⟨(⟨3, 0, l, [], zeroR, 0⟩ : Prd), A, c, by rw [← HP.out.1], (show prdV (⟨3, 0, l, [], zeroR, 0⟩ : Prd) A c = (Z.set 0 (.int .i64 3)).set 2 (.slice A l.length c) by rw [hZ.out]; rfl) ▸ r3.set 2 _, (show PrdAt w3 (⟨3, 0, l, [], zeroR, 0⟩ : Prd) A c from ⟨ho, SL3.out, by show (-9223372036854775808 : Int) ≤ 3; decide, by show (3 : Int) ≤ 9223372036854775807; decide, by show (0 : Nat) ≤ 4000; omega, hsum⟩).apart (grown_setCell _ _ _ _) (HAP.out _ (Nat.le_refl _)), HAP.out, HP.out.2, hb3.setCell (p := ⟨w.heap.size, 2, none⟩) (Nat.le_refl _) _⟩
    by_cases e4 : a = [112, 97, 116, 104]
    · subst e4
      have HV : readP [112, 97, 116, 104] b = (if rightL b = true then some ⟨4, 0, [], b, zeroR, 0⟩ else none) := rfl
      rw [HV] at HO
      have b1 := (bstr_is15 [112, 97, 116, 104] [98, 101, 102, 111, 114, 101]).trans (decide_eq_false (by decide))
      have b2 := (bstr_is15 [112, 97, 116, 104] [115, 105, 110, 99, 101]).trans (decide_eq_false (by decide))
      have b3 := (bstr_is15 [112, 97, 116, 104] [111, 112]).trans (decide_eq_false (by decide))
      have b4 := (bstr_is15 [112, 97, 116, 104] [112, 97, 116, 104]).trans (decide_eq_true rfl)
      have ho : (⟨4, 0, [], b, zeroR, 0⟩ : Prd).Ok := ⟨zeroR_ok, by show (0 : Nat) < 2 ^ 64; decide, by show (0 : Nat) < 2 ^ 64; decide⟩
      have HP := Lib.hid (show rightL b = o.isSome ∧ ∀ x, o = some x → (⟨4, 0, [], b, zeroR, 0⟩ : Prd) = x from by
        rw [HO]
        cases rightL b with
        | true => exact ⟨rfl, fun x hx => Option.some.inj hx⟩
        | false => exact ⟨rfl, fun x hx => by cases hx⟩)
      have hcon := Lib.hid (hpr.out rfl)
      clear HV HO
      generalize rightL b = ok at *
      generalize bstr [112, 97, 116, 104] = S at *
      go_wp2_with (first
        | (go_at_call 71; refine (hcon.out _).mono ?_; rintro e w3 ⟨rfl, hq3⟩; have r3 := (r1.set 0 (.int .i64 4)).later hq3 (r1.set 0 (.int .i64 4)).lt; have hb3 := (hb1.setCell (p := ⟨w.heap.size, 0, none⟩) (Nat.le_refl _) (.int .i64 4)).trans (hq3.mono (hb1.setCell (p := ⟨w.heap.size, 0, none⟩) (Nat.le_refl _) (.int .i64 4)).size); have c1 : w3.cell? ⟨w.heap.size, 3, none⟩ = some (.string { data := #[] }) := (by rw [r3.cell, hZe.out]; rfl); have f1 := r3.free 3; clear hq3))
      go_meet
      case rel => exact ⟨(⟨4, 0, [], b, zeroR, 0⟩ : Prd), none, 0, by rw [← HP.out.1], (show prdV (⟨4, 0, [], b, zeroR, 0⟩ : Prd) none 0 = (Z.set 0 (.int .i64 4)).set 3 (.string (bstr b)) by rw [hZ.out]; rfl) ▸ r3.set 3 _, prdAt_plain _ ho rfl (by show (0 : Int) ≤ 4; decide) (by show (4 : Int) ≤ 7; decide) (by show b.length ≤ 4000; omega) _, fun g _ a ha => (by cases ha), HP.out.2, hb3.setCell (p := ⟨w.heap.size, 3, none⟩) (Nat.le_refl _) _⟩
    by_cases e5 : a = [110, 101, 116]
    · subst e5
      have HV : readP [110, 101, 116] b = ((parseR b).map fun r => ⟨5, 0, [], [], r, 0⟩) := rfl
      rw [HV] at HO
      have b1 := (bstr_is15 [110, 101, 116] [98, 101, 102, 111, 114, 101]).trans (decide_eq_false (by decide))
      have b2 := (bstr_is15 [110, 101, 116] [115, 105, 110, 99, 101]).trans (decide_eq_false (by decide))
      have b3 := (bstr_is15 [110, 101, 116] [111, 112]).trans (decide_eq_false (by decide))
      have b4 := (bstr_is15 [110, 101, 116] [112, 97, 116, 104]).trans (decide_eq_false (by decide))
      have b5 := (bstr_is15 [110, 101, 116] [110, 101, 116]).trans (decide_eq_true rfl)
      have ho : (⟨5, 0, [], [], (parseR b).getD zeroR, 0⟩ : Prd).Ok := cands_ok b _ (cand_mem b 4 (by omega))
      have HP := Lib.hid (show (parseR b).isSome = o.isSome ∧ ∀ x, o = some x → (⟨5, 0, [], [], (parseR b).getD zeroR, 0⟩ : Prd) = x from ⟨by rw [HO, Option.isSome_map], fun x hx => map_gave (parseR b) zeroR (fun r => ⟨5, 0, [], [], r, 0⟩) x (by rw [← HO]; exact hx)⟩)
      have hcon := hne.out rfl
      rw [parsR_out] at hcon
      have hcon := Lib.hid hcon
      clear HV HO
      generalize (parseR b).isSome = ok at *
      generalize (parseR b).getD zeroR = r at *
      obtain ⟨N, hN⟩ : ∃ N, N = rngV r := ⟨_, rfl⟩
      have hNl := Lib.hid (show N.length = 18 by rw [hN]; exact length_rngV' _ ho.net.a)
      have hzN := Lib.hid (show (Tryz.prog.info? 67).map (·.size) = some N.length by rw [hNl.out]; exact size_rng)
      have hN1 := Lib.hid (show ∀ v ∈ N, v.oneCell' = true by rw [hN]; exact rngV_one r)
      have HN := Lib.hid hN
      rw [← hN] at hcon
      clear hN
      generalize bstr [110, 101, 116] = S at *
      have hZl := Lib.hid (show (Z.set 0 (.int .i64 5)).length = 23 by rw [hZe.out]; rfl)
      have HSP := Lib.hid (show splice (Z.set 0 (.int .i64 5)) 4 N = prdV (⟨5, 0, [], [], r, 0⟩ : Prd) none 0 by unfold splice; rw [hNl.out, HN.out, hZ.out]; rfl)
      go_wp2_with (first
        | (go_at_call 72; refine (hcon.out _ (hE.next (hb1.setCell (p := ⟨w.heap.size, 0, none⟩) (Nat.le_refl _) (.int .i64 5))).a).mono ?_; rintro e w3 ⟨rfl, hq3⟩; have r3 := (r1.set 0 (.int .i64 5)).later hq3 (r1.set 0 (.int .i64 5)).lt; have hb3 := (hb1.setCell (p := ⟨w.heap.size, 0, none⟩) (Nat.le_refl _) (.int .i64 5)).trans (hq3.mono (hb1.setCell (p := ⟨w.heap.size, 0, none⟩) (Nat.le_refl _) (.int .i64 5)).size); clear hq3)
        | ((with_reducible refine wpList_step fun K hK => ?_); refine step_store_row none rfl (by rfl) 67 (.tmp 49) (.tmp 47) rfl w.heap.size 4 70 _ N rfl rfl r3 (by rw [hNl.out, hZl.out]; omega) hzN.out hN1.out ?_; intro w4 r4 hg4; rw [HSP.out] at r4; refine hK _ _ ?_; clear hK; have hb4 := hb3.grown hg4 hb3.size (fun k h => by cases h; exact Nat.le_refl _); clear r3 hb3 hg4))
      go_meet
      case rel => exact ⟨(⟨5, 0, [], [], r, 0⟩ : Prd), none, 0, by rw [← HP.out.1], r4, prdAt_plain _ ho rfl (by show (0 : Int) ≤ 5; decide) (by show (5 : Int) ≤ 7; decide) (by show (0 : Nat) ≤ 4000; omega) _, fun g _ a ha => (by cases ha), HP.out.2, hb4⟩
    by_cases e6 : a = [99, 111, 115, 116]
    · subst e6
      have HV : readP [99, 111, 115, 116] b = ((parseC b).map fun c => ⟨6, 0, [], [], zeroR, c⟩) := rfl
      rw [HV] at HO
      have b1 := (bstr_is15 [99, 111, 115, 116] [98, 101, 102, 111, 114, 101]).trans (decide_eq_false (by decide))
      have b2 := (bstr_is15 [99, 111, 115, 116] [115, 105, 110, 99, 101]).trans (decide_eq_false (by decide))
      have b3 := (bstr_is15 [99, 111, 115, 116] [111, 112]).trans (decide_eq_false (by decide))
      have b4 := (bstr_is15 [99, 111, 115, 116] [112, 97, 116, 104]).trans (decide_eq_false (by decide))
      have b5 := (bstr_is15 [99, 111, 115, 116] [110, 101, 116]).trans (decide_eq_false (by decide))
      have b6 := (bstr_is15 [99, 111, 115, 116] [99, 111, 115, 116]).trans (decide_eq_true rfl)
      have ho : (⟨6, 0, [], [], zeroR, (parseC b).getD 0⟩ : Prd).Ok := cands_ok b _ (cand_mem b 5 (by omega))
      have HP := Lib.hid (show (parseC b).isSome = o.isSome ∧ ∀ x, o = some x → (⟨6, 0, [], [], zeroR, (parseC b).getD 0⟩ : Prd) = x from ⟨by rw [HO, Option.isSome_map], fun x hx => map_gave (parseC b) 0 (fun c => ⟨6, 0, [], [], zeroR, c⟩) x (by rw [← HO]; exact hx)⟩)
      have hcon := Lib.hid (hco.out rfl)
      clear HV HO
      generalize (parseC b).getD 0 = f at *
      generalize (parseC b).isSome = ok at *
      generalize bstr [99, 111, 115, 116] = S at *
      go_wp2_with (first
        | (go_at_call 73; refine (hcon.out _ (hE.next (hb1.setCell (p := ⟨w.heap.size, 0, none⟩) (Nat.le_refl _) (.int .i64 6))).d).mono ?_; rintro e w3 ⟨rfl, hq3⟩; have r3 := (r1.set 0 (.int .i64 6)).later hq3 (r1.set 0 (.int .i64 6)).lt; have hb3 := (hb1.setCell (p := ⟨w.heap.size, 0, none⟩) (Nat.le_refl _) (.int .i64 6)).trans (hq3.mono (hb1.setCell (p := ⟨w.heap.size, 0, none⟩) (Nat.le_refl _) (.int .i64 6)).size); have c1 : w3.cell? ⟨w.heap.size, 22, none⟩ = some (.float .f64 0) := (by rw [r3.cell, hZe.out]; rfl); have f1 := r3.free 22; clear hq3))
      go_meet
      case rel => exact ⟨(⟨6, 0, [], [], zeroR, f⟩ : Prd), none, 0, by rw [← HP.out.1], (show prdV (⟨6, 0, [], [], zeroR, f⟩ : Prd) none 0 = (Z.set 0 (.int .i64 6)).set 22 (.float .f64 f) by rw [hZ.out]; rfl) ▸ r3.set 22 _, prdAt_plain _ ho rfl (by show (0 : Int) ≤ 6; decide) (by show (6 : Int) ≤ 7; decide) (by show (0 : Nat) ≤ 4000; omega) _, fun g _ a ha => (by cases ha), HP.out.2, hb3.setCell (p := ⟨w.heap.size, 22, none⟩) (Nat.le_refl _) _⟩
    have HV : readP a b = none := by unfold readP; rw [if_neg e1, if_neg e2, if_neg e3, if_neg e4, if_neg e5, if_neg e6]
    rw [HV] at HO
    have b1 := (bstr_is15 a [98, 101, 102, 111, 114, 101]).trans (decide_eq_false e1)
    have b2 := (bstr_is15 a [115, 105, 110, 99, 101]).trans (decide_eq_false e2)
    have b3 := (bstr_is15 a [111, 112]).trans (decide_eq_false e3)
    have b4 := (bstr_is15 a [112, 97, 116, 104]).trans (decide_eq_false e4)
    have b5 := (bstr_is15 a [110, 101, 116]).trans (decide_eq_false e5)
    have b6 := (bstr_is15 a [99, 111, 115, 116]).trans (decide_eq_false e6)
    clear e1 e2 e3 e4 e5 e6
    have HP := Lib.hid (show false = o.isSome ∧ ∀ x, o = some x → zeroP = x from ⟨by rw [HO]; rfl, fun x hx => by rw [HO] at hx; cases hx⟩)
    clear HV HO
    generalize bstr a = S at *
    go_wp2
    go_meet
    case rel => exact ⟨zeroP, none, 0, by rw [← HP.out.1], hZ.out ▸ r1, zero_at _, fun g _ a ha => (by cases ha), HP.out.2, hb1⟩
  case rest =>
  obtain ⟨q, A, c, rfl, r4, hpa, hap, hv, hb4⟩ := hcut
  have HAP := Lib.hid hap
  have HPA := Lib.hid hpa
  have HVV := Lib.hid hv
  obtain ⟨V, hV⟩ : ∃ V, V = prdV q A c := ⟨_, rfl⟩
  rw [← hV] at r4
  have hVl := Lib.hid (show (Tryz.prog.info? 70).map (·.size) = some V.length by rw [hV, length_prdV _ hpa.ok.net.a]; exact size_prd)
  have hzV := Lib.hid (show (Tryz.prog.info? 70).map (·.size) = some V.toArray.size by rw [List.size_toArray]; exact hVl.out)
  have hV1 := Lib.hid (show V.toArray.all (·.oneCell') = true by rw [hV]; exact prdV_one _ _ _)
  have HV := Lib.hid hV
  have Q4 := Lib.hid (show wc.heap[w.heap.size]? = some (.cells V.toArray 70 (0, 0)) from r4)
  have K4 := Lib.hid (row_range r4)
  clear r4 hpa hap hv hV c0 f0 r1 hb1
  go_wp2_with (first
    | (with_reducible refine wpList_load_mid rfl 70 (.tmp 4) rfl w.heap.size 0 rfl V _ K4.out Tryz.underlying70 rfl hVl.out ?_)
    | (with_reducible refine wpList_store_row rfl 70 (.tmp 4) (.tmp 59) rfl w.heap.size V.toArray rfl rfl 70 V.toArray Q4.out hzV.out rfl hV1.out ?_; refine Hid.out ?_))
  refine Lib.hid ?_
  generalize hw8 : World.setRow _ _ _ = w8
  obtain ⟨r8, hg8⟩ := row_set (show Row wc w.heap.size 70 V from Q4.out) hw8
  have hb8 := hb4.grown hg8 hb4.size (fun k h => by cases h; exact Nat.le_refl _)
  have R8 := Lib.hid (show w8.heap[w.heap.size]? = some (.cells V.toArray 70 (0, 0)) from r8)
  clear hw8 r8 Q4 K4
  go_wp2_with fail
  exact ⟨rfl, _, results_row_tmp rfl _ _ w.heap.size 70 V.toArray (0, 0) _ rfl R8.out Tryz.underlying70 rfl hzV.out _ rfl, q, A, c, by rw [HV.out]; rfl, HPA.out.apart hg8 (HAP.out _ (Nat.le_refl _)), fun g hg => HAP.out g (Nat.le_of_lt hg), HVV.out, hb8⟩
end Go.Proofs.YtimdhdimhboboaaGreatDoor

/- LAYER 17: package caveat: Parse. -/
namespace Go.Proofs.YtimdhdimhboboaaGreatDoor
set_option maxRecDepth 100000
open Go Go.RowKit

theorem prdV_each (p : Prd) (A : Option Addr) (c : Nat) : ∀ v ∈ prdV p A c, v.oneCell' = true := by
  have h := prdV_one p A c
  rw [List.all_toArray, List.all_eq_true] at h
  exact h
theorem row_all {w : World} {g t n : Nat} {Z V : List Value} (hz : Z.length = n) (hv : V.length = n) (h : Row w g t (splice Z 0 V)) : Row w g t V := by
  have e : splice Z 0 V = V := by
    unfold splice
    rw [List.take_zero, List.nil_append, Nat.zero_add, hv, ← hz, List.drop_length, List.append_nil]
  rw [e] at h
  exact h
set_option maxHeartbeats 2000000 in
theorem pparse_by (s a b : List UInt8) (hs : s.length ≤ 10000) (o : Option Prd) (hrd : ∀ w', EnvQ w' → Calls Tryz.prog 50 #[.string (bstr a), .string (bstr b)] w' (GaveRead o w')) (w : World) (hE : EnvQ w) (hw : wordsL s = some [a, b]) : Calls Tryz.prog 32 #[.string (bstr s)] w (GavePrd o w) := by
  obtain ⟨Z, hZ⟩ : ∃ Z, Z = prdV zeroP none 0 := ⟨_, rfl⟩
  have hZl0 : Z.length = 23 := by rw [hZ]; exact length_prdV _ zeroP_ok.net.a _ _
  have hzZ := Lib.hid (show (Tryz.prog.info? 70).map (·.size) = some Z.toArray.size by rw [List.size_toArray, hZl0]; exact size_prd)
  have hZ1 := Lib.hid (show Z.toArray.all (·.oneCell') = true by rw [hZ]; exact prdV_one _ _ _)
  have hZe := Lib.hid (hZ.trans prd_zero)
  have hZd := Lib.hid (show Z = prdV zeroP none 0 from hZ)
  have hZl := Lib.hid hZl0
  obtain ⟨w1, hw1⟩ : ∃ w1, w1 = w.alloc (.cells Z.toArray 70) := ⟨_, rfl⟩
  have r1 : Row w1 w.heap.size 70 Z := by rw [hw1]; exact Row.new w _ _
  have hb1 : Below w.heap.size w w1 := by rw [hw1]; exact (Below.refl _ w).alloc (Nat.le_refl _) _
  have HW := Lib.hid (hw1.trans (show w.alloc (.cells Z.toArray 70) = w.alloc (.cells [Value.int .i64 0, .int .u64 0, .slice none 0 0, .string { data := #[] }, .bool false, .int .u8 0, .int .u8 0, .int .u8 0, .int .u8 0, .int .u8 0, .int .u8 0, .int .u8 0, .int .u8 0, .int .u8 0, .int .u8 0, .int .u8 0, .int .u8 0, .int .u8 0, .int .u8 0, .int .u8 0, .int .u8 0, .int .i64 0, .float .f64 0].toArray 70) by rw [hZe.out]))
  have tok1 : True := trivial
  have hE1 := hE.next hb1
  have hwd := xwords_any s hs w1 hE1.x
  unfold GaveRow at hwd
  rw [hw] at hwd
  have hwd : Calls Tryz.prog 49 #[.string (bstr s)] w1 fun e w' => ∃ (A : Option Addr) (c : Nat), e = .returned (.tuple #[.slice A 2 c, .bool true]) ∧ Sl w' A c (strsV [a, b]) ∧ Below w1.heap.size w1 w' := hwd
  unfold GaveRead at hrd
  have hwd := Lib.hid hwd
  have hrd := Lib.hid hrd
  clear hw hw1 hZ hZl0 hE
  generalize bstr s = S at *
  obtain ⟨A0, hA0⟩ : ∃ A0, A0 = bstr a := ⟨_, rfl⟩
  obtain ⟨B0, hB0⟩ : ∃ B0, B0 = bstr b := ⟨_, rfl⟩
  rw [← hA0, ← hB0] at hrd
  have hst : strsV [a, b] = [.string A0, .string B0] := by rw [hA0, hB0]; rfl
  rw [hst] at hwd
  clear hst hA0 hB0
  go_enter Tryz.func32, Tryz.ntmps32
  go_wp2_with (first
    | (have _t := tok1; rw [← HW.out]; clear tok1)
    | (go_at_call 49; refine hwd.out.mono ?_; rintro e w2 ⟨A, c, rfl, hsl, hq2⟩; have r2 := r1.later hq2 r1.lt; have hb2 := hb1.trans (hq2.mono hb1.size); have hE2 := hE1.next hq2; clear hq2 r1))
  obtain ⟨bk, ofs, rfl, -, -⟩ := hsl.rd.get (i := 0) (by show 0 < 2; decide)
  have hk0 : ∀ w', Below w2.heap.size w2 w' → w'.cell? ⟨bk, ofs, none⟩ = some (.string A0) := fun w' h => by
    obtain ⟨b', o', e, -, hc⟩ := (hsl.later (Nat.le_refl _) h).rd.get (i := 0) (by show 0 < 2; decide)
    cases e; rw [Nat.add_zero] at hc; exact hc
  have hk1 : ∀ w', Below w2.heap.size w2 w' → w'.cell? ⟨bk, ofs + 1, none⟩ = some (.string B0) := fun w' h => by
    obtain ⟨b', o', e, -, hc⟩ := (hsl.later (Nat.le_refl _) h).rd.get (i := 1) (by show 1 < 2; decide)
    cases e; exact hc
  have hix0 : ∀ W, (Instr.indexAt 59 (.slice (some ⟨bk, ofs, none⟩) 2 c) (.int .i64 0)).run Tryz.prog W = .ok (.pointer (some ⟨bk, ofs, none⟩)) W := index_strs (some ⟨bk, ofs, none⟩) bk ofs 2 c 0 rfl (by decide)
  have hix1 : ∀ W, (Instr.indexAt 59 (.slice (some ⟨bk, ofs, none⟩) 2 c) (.int .i64 1)).run Tryz.prog W = .ok (.pointer (some ⟨bk, ofs + 1, none⟩)) W := index_strs (some ⟨bk, ofs, none⟩) bk ofs 2 c 1 rfl (by decide)
  have HK0 := Lib.hid hk0
  have HK1 := Lib.hid hk1
  clear hk0 hk1 hE1 hwd HW
  go_cut [6, 7] (fun y z wx => ∃ g q A' c', y = .pointer (some ⟨g, 0, none⟩) ∧ z = .bool o.isSome ∧ PrdAt wx q A' c' ∧ (∀ a, A' = some a → a.block ≠ w.heap.size) ∧ (∀ x, o = some x → q = x) ∧ Row wx g 70 (prdV q A' c') ∧ Below w2.heap.size w2 wx)
  case first =>

    refine wp_region_noPanic ?_
    refine wp_region_held_drew (S := fun w' => Below w2.heap.size w2 w') (by kernel_rfl) ((Below.refl _ _).drew) (fun hHeld => ?_)
    have hB := hHeld
    refine rt 0 18 hHeld ?_
    refine rt 1 19 hHeld ?_
    refine rt 2 20 hHeld ?_ (hy := by intro w hS; have hk := HK0.out _ hS; clear hS; go_simp; try with_reducible rfl)
    refine rt 3 21 hHeld ?_
    refine rt 4 22 hHeld ?_
    refine rt 5 23 hHeld ?_ (hy := by intro w hS; have hk := HK1.out _ hS; clear hS; go_simp; try with_reducible rfl)
    refine wpAnyH_ready (rs := [6, 10]) (by kernel_rfl) (by simp) (AllReadyH.cons (o := _) rfl (fun K hK => ?_) (AllReadyH.cons (o := _) rfl (fun K hK => ?_) AllReadyH.nil))
    · go_simp
      refine (hrd.out _ (hE2.next hB)).mono ?_; rintro e ww26 ⟨q, A', c', rfl, hpa, hap, hcr, hqw26⟩; have hap := Lib.hid hap; have hcr := Lib.hid hcr; have hapg := Lib.hid (hap.out _ (r2.later hB r2.lt).lt)
      try go_wp2_with fail
      refine hK.out _ _ (hHeld.trans (hqw26.mono hHeld.size)) (fun hHeld' => ?_)
      clear hK K
      try (first | (rw [put_some]; dsimp only [List.set]) | rw [put_none])
      have hB := below_step hB hqw26
      have hB6 : Below ww26.heap.size ww26 ww26 := Below.refl _ _
      clear hHeld
      have hHeld := hHeld'
      refine rt 7 17 hHeld ?_
      refine rt 8 25 hHeld ?_
      refine rt 9 26 hHeld ?_
      refine wpAnyH_ready (rs := [10]) (by kernel_rfl) (by simp) (AllReadyH.cons (o := _) rfl (fun K hK => ?_) AllReadyH.nil)
      refine step_alloc (some 6) rfl (by rfl) (.pointer (some ⟨ww26.heap.size, 0, none⟩)) (.cells Z.toArray 70) (by rw [hZe.out]; go_simp; try rfl) ?_; intro ww210 hw hqw210; have r10 : Row ww210 ww26.heap.size 70 Z := (by rw [hw]; exact Row.new _ _ _); have hGle := Lib.hid hB.size; clear hw
      refine hK.out _ _ (hHeld.trans (hqw210.mono hHeld.size)) (fun hHeld' => ?_)
      clear hK K
      try (first | (rw [put_some]; dsimp only [List.set]) | rw [put_none])
      have hB := below_step hB hqw210
      have hB6 := below_step hB6 hqw210
      have hB10 : Below ww210.heap.size ww210 ww210 := Below.refl _ _
      clear hHeld
      have hHeld := hHeld'
      refine wpAnyH_ready (rs := [11]) (by kernel_rfl) (by simp) (AllReadyH.cons (o := _) rfl (fun K hK => ?_) AllReadyH.nil)
      refine step_store_row none rfl (by rfl) 70 (.tmp 6) (.tmp 25) rfl _ 0 70 _ (prdV q A' c') rfl rfl (r10.later hB10 r10.lt) (by rw [hZl.out, length_prdV _ hpa.ok.net.a]; exact Nat.le_refl _) (by rw [length_prdV _ hpa.ok.net.a]; exact size_prd) (prdV_each _ _ _) ?_; intro ww211 r11 hg11; have hqw211 := (Below.refl w2.heap.size _).grown hg11 hB.size (fun k h => by cases h; exact hGle.out); have r11 := row_all hZl.out (length_prdV q hpa.ok.net.a A' c') r11; have hpa11 : PrdAt ww211 q A' c' := (by first | exact hpa.later (Nat.le_refl _) (hB6.grown hg11 hB6.size (fun k h => by cases h; exact Nat.le_refl _)) | exact hpa.apart hg11 (hap.out _ r10.lt))
      refine hK.out _ _ (hHeld.trans hqw211) (fun hHeld' => ?_)
      clear hK K
      try (first | (rw [put_some]; dsimp only [List.set]) | rw [put_none])
      have hB := hB.trans hqw211
      clear hB6 hB10
      have hB11 : Below ww211.heap.size ww211 ww211 := Below.refl _ _
      refine wpAnyH_narrow (S' := fun w' => Below ww211.heap.size ww211 w') (fun _ h => (hHeld.trans hqw211).trans (h.mono (hHeld.trans hqw211).size)) _ _ _ _ ?_
      clear hHeld
      have hHeld : Below ww211.heap.size ww211 ww211 := Below.refl _ _
      refine rt 12 7 hHeld ?_
      refine wpAnyH_done (by kernel_rfl) ?_ _
      refine NoPanic.normal ?_
      go_wp2_with fail
      go_meet
      case rel => exact ⟨_, q, A', c', rfl, rfl, hpa11, hapg.out, hcr.out, r11, hB⟩
    · refine step_alloc (some 6) rfl (by rfl) (.pointer (some ⟨w2.heap.size, 0, none⟩)) (.cells Z.toArray 70) (by rw [hZe.out]; go_simp; try rfl) ?_; intro ww210 hw hqw210; have r10 : Row ww210 w2.heap.size 70 Z := (by rw [hw]; exact Row.new _ _ _); have hGle := Lib.hid hB.size; clear hw
      refine hK.out _ _ (hHeld.trans (hqw210.mono hHeld.size)) (fun hHeld' => ?_)
      clear hK K
      try (first | (rw [put_some]; dsimp only [List.set]) | rw [put_none])
      have hB := below_step hB hqw210
      have hB10 : Below ww210.heap.size ww210 ww210 := Below.refl _ _
      clear hHeld
      have hHeld := hHeld'
      refine wpAnyH_ready (rs := [6]) (by kernel_rfl) (by simp) (AllReadyH.cons (o := _) rfl (fun K hK => ?_) AllReadyH.nil)
      go_simp
      refine (hrd.out _ (hE2.next hB)).mono ?_; rintro e ww26 ⟨q, A', c', rfl, hpa, hap, hcr, hqw26⟩; have hap := Lib.hid hap; have hcr := Lib.hid hcr; have hapg := Lib.hid (hap.out _ (r2.later hB r2.lt).lt)
      try go_wp2_with fail
      refine hK.out _ _ (hHeld.trans (hqw26.mono hHeld.size)) (fun hHeld' => ?_)
      clear hK K
      try (first | (rw [put_some]; dsimp only [List.set]) | rw [put_none])
      have hB := below_step hB hqw26
      have hB10 := below_step hB10 hqw26
      have hB6 : Below ww26.heap.size ww26 ww26 := Below.refl _ _
      clear hHeld
      have hHeld := hHeld'
      refine rt 7 17 hHeld ?_
      refine rt 8 25 hHeld ?_
      refine rt 9 26 hHeld ?_
      refine wpAnyH_ready (rs := [11]) (by kernel_rfl) (by simp) (AllReadyH.cons (o := _) rfl (fun K hK => ?_) AllReadyH.nil)
      refine step_store_row none rfl (by rfl) 70 (.tmp 6) (.tmp 25) rfl _ 0 70 _ (prdV q A' c') rfl rfl (r10.later hB10 r10.lt) (by rw [hZl.out, length_prdV _ hpa.ok.net.a]; exact Nat.le_refl _) (by rw [length_prdV _ hpa.ok.net.a]; exact size_prd) (prdV_each _ _ _) ?_; intro ww211 r11 hg11; have hqw211 := (Below.refl w2.heap.size _).grown hg11 hB.size (fun k h => by cases h; exact hGle.out); have r11 := row_all hZl.out (length_prdV q hpa.ok.net.a A' c') r11; have hpa11 : PrdAt ww211 q A' c' := (by first | exact hpa.later (Nat.le_refl _) (hB6.grown hg11 hB6.size (fun k h => by cases h; exact Nat.le_refl _)) | exact hpa.apart hg11 (hap.out _ r10.lt))
      refine hK.out _ _ (hHeld.trans hqw211) (fun hHeld' => ?_)
      clear hK K
      try (first | (rw [put_some]; dsimp only [List.set]) | rw [put_none])
      have hB := hB.trans hqw211
      clear hB10 hB6
      have hB11 : Below ww211.heap.size ww211 ww211 := Below.refl _ _
      refine wpAnyH_narrow (S' := fun w' => Below ww211.heap.size ww211 w') (fun _ h => (hHeld.trans hqw211).trans (h.mono (hHeld.trans hqw211).size)) _ _ _ _ ?_
      clear hHeld
      have hHeld : Below ww211.heap.size ww211 ww211 := Below.refl _ _
      refine rt 12 7 hHeld ?_
      refine wpAnyH_done (by kernel_rfl) ?_ _
      refine NoPanic.normal ?_
      go_wp2_with fail
      go_meet
      case rel => exact ⟨_, q, A', c', rfl, rfl, hpa11, hapg.out, hcr.out, r11, hB⟩
  case rest =>
  obtain ⟨g, q, A', c', rfl, rfl, hpa, hap, hcr, r11, hB⟩ := hcut
  have hbx := hb2.trans (hB.mono hb2.size)
  have Q2 := Lib.hid (show (_ : World).heap[w.heap.size]? = some (.cells Z.toArray 70 (0, 0)) from r2.later hB r2.lt)
  have HAP := Lib.hid hap
  have HPA := Lib.hid hpa
  cases o with
  | none =>
    clear r11 hB hrd hcr hap hpa
    go_wp2_with (have _t := Q2; refine wpList_store_row rfl 70 (.tmp 2) (.tmp 29) rfl w.heap.size Z.toArray rfl (by rw [hZe.out]; rfl) 70 Z.toArray Q2.out hzZ.out rfl hZ1.out ?_; refine Hid.out ?_)
    refine Lib.hid ?_
    generalize hw8 : World.setRow _ _ _ = w8
    obtain ⟨r8, hg8⟩ := row_set (show Row _ w.heap.size 70 Z from Q2.out) hw8
    have hb8 := hbx.grown hg8 hbx.size (fun k h => by cases h; exact Nat.le_refl _)
    have R8 := Lib.hid (show w8.heap[w.heap.size]? = some (.cells Z.toArray 70 (0, 0)) from r8)
    clear hw8 r8 Q2
    go_wp2_with fail
    exact ⟨rfl, _, results_row_tmp rfl _ _ w.heap.size 70 Z.toArray (0, 0) _ rfl R8.out Tryz.underlying70 rfl hzZ.out _ rfl, none, 0, by rw [hZd.out]; rfl, zero_at _, hb8⟩
  | some p =>
    obtain rfl := hcr _ rfl
    have hVl := Lib.hid (show (Tryz.prog.info? 70).map (·.size) = some (prdV q A' c').length by rw [length_prdV _ hpa.ok.net.a]; exact size_prd)
    have hzV := Lib.hid (show (Tryz.prog.info? 70).map (·.size) = some (prdV q A' c').toArray.size by rw [List.size_toArray]; exact hVl.out)
    have hV1 := Lib.hid (prdV_one q A' c')
    have hVZ := Lib.hid (show Z.toArray.size = (prdV q A' c').toArray.size by rw [List.size_toArray, List.size_toArray, hZl.out, length_prdV _ hpa.ok.net.a])
    have K11 := Lib.hid (row_range r11)
    clear r11 hB hrd hcr hap hpa
    obtain ⟨V, hV⟩ : ∃ V, V = prdV q A' c' := ⟨_, rfl⟩
    rw [← hV] at hVl hzV hV1 hVZ K11
    have HV := Lib.hid hV
    clear hV
    go_wp2_with (first | (with_reducible refine wpList_load_mid rfl 70 (.tmp 6) rfl g 0 rfl V _ K11.out Tryz.underlying70 rfl hVl.out ?_) | (have _t := Q2; with_reducible refine wpList_store_row rfl 70 (.tmp 2) (.tmp 30) rfl w.heap.size V.toArray rfl rfl 70 Z.toArray Q2.out hzV.out hVZ.out hV1.out ?_; refine Hid.out ?_))
    refine Lib.hid ?_
    generalize hw8 : World.setRow _ _ _ = w8
    obtain ⟨r8, hg8⟩ := row_set (show Row _ w.heap.size 70 Z from Q2.out) hw8
    have hb8 := hbx.grown hg8 hbx.size (fun k h => by cases h; exact Nat.le_refl _)
    have R8 := Lib.hid (show w8.heap[w.heap.size]? = some (.cells V.toArray 70 (0, 0)) from r8)
    clear hw8 r8 Q2
    go_wp2_with fail
    exact ⟨rfl, _, results_row_tmp rfl _ _ w.heap.size 70 V.toArray (0, 0) _ rfl R8.out Tryz.underlying70 rfl hzV.out _ rfl, A', c', by rw [HV.out]; rfl, HPA.out.apart hg8 HAP.out, hb8⟩
end Go.Proofs.YtimdhdimhboboaaGreatDoor
