/- LAYER 13, NetBack, proved: for any two ranges and any text, and every state of memory in which the library's listed variables lie as its text lays them, the call returns true and turns nothing that was there: a range that can be comes back from its text, of two ranges the one is in the other one or they have no address in common, and a text that is read is written as it was. Conditions: the library's tables and sentinels as laid (the card ties them to the program's text). -/
import Derived.Test.YtflebnbpoboljaaDoorGL13Bn
import Derived.Test.YtflebnbpoboljaaDoorGL13Bs
import Derived.Test.YtflebnbpoboljaaDoorK
import Derived.Test.YtflebnbpoboljaaDoorCards
import Derived.Test.YtflebnbpoboljaaDoorTie
import Derived.Test.YtflebnbpoboljaaDoorGAd3
import Derived.Test.YtflebnbpoboljaaDoorAd0
import Derived.Test.YtflebnbpoboljaaDoorGYl
import Derived.Stop.LaidErr
import Derived.Shelf.Vars
/- LAYER 13, NetBack: the walk of the law. -/
namespace Go.Proofs.YtflebnbpoboljaaDoor
set_option maxRecDepth 100000
open Go Go.RowKit

set_option maxHeartbeats 4000000 in
theorem nback_walk (a : Rng) (ha : a.Ok) (b : Rng) (hb : b.Ok) (s : List UInt8) (w : World) (hE : Env w) :
    Calls Tryd.prog 5 #[.agg (rngV a).toArray, .agg (rngV b).toArray, .string (bstr s)] w fun e w' => e = .returned (.bool true) ∧ Below w.heap.size w w' := by
  by_cases h5 : 500 < s.length
  · have hal := Lib.hid (fun w' hE => netAlive_any w' hE)
    have hzs := size_bstr s
    generalize rngV a = Q at *
    generalize rngV b = P at *
    obtain ⟨w1, hw1⟩ : ∃ w1, w1 = (w.alloc (.cells Q.toArray 26)).alloc (.cells P.toArray 26) := ⟨_, rfl⟩
    obtain ⟨-, -, hb1, -⟩ := two_rows hw1.symm
    have hE1 := hE.next hb1
    have HW := Lib.hid hw1
    have h5' : (500 : Int) < (s.length : Int) := by omega
    clear hw1 hE h5
    generalize s.length = n at *
    generalize bstr s = S at *
    go_enter Tryd.func5, Tryd.ntmps5
    go_wp2_with (go_at_call 6; rw [← HW.out]; refine (hal.out _ hE1).mono ?_; rintro e w2 ⟨rfl, hb2⟩)
    go_ret
    exact ⟨rfl, hb1.trans (hb2.mono hb1.size)⟩
  · obtain ⟨r1, p1, hb1, -⟩ := two_rows (w := w) (A := rngV a) (B := rngV b) (tA := 26) (tB := 26) rfl
    have hc : NBk w _ (rngV a) (rngV b) (adrV a.a) (adrV b.a) a.n b.n s.length (bstr s) (bstr (textR a)) :=
      ⟨r1, p1, hb1, hE.next hb1, rfl, rfl, rfl, length_adrV ha.a, length_adrV hb.a, rng18 a ha.a, rng18 b hb.a, fun w' hE => atext13_any a ha w' hE, by omega, size_bstr s, by simp⟩
    have z18 := rng18 zeroR zeroA_ok
    have hps := fun w' hE => aparse13_any s (by omega) w' hE
    have hpa := fun w' hE => aparse13_any (textR a) (by have := textR_len a; omega) w' hE
    rw [parse_text a ha] at hpa
    have hcka := fun w' => acheckR_any a ha w'
    have hckb := fun w' => acheckR_any b hb w'
    have hw1c := fun w' => awithin_any a b ha hb w'
    have hw2c := fun w' => awithin_any b a hb ha w'
    have hh1 := fun w' => ahas_any a ha b.a hb.a w'
    have hh2 := fun w' => ahas_any b hb a.a ha.a w'
    have hEq : ∀ w, (Op.equalIn 10000 26 (.agg (rngV a).toArray) (.agg (rngV a).toArray)).run Tryd.prog w = .ok true w := by intro w; rw [eq_rng a a ha.a ha.a w]; simp
    have hEz : ∀ w, (Op.equalIn 10000 26 (.agg (rngV zeroR).toArray) (.agg #[.bool false, .int .u8 0, .int .u8 0, .int .u8 0, .int .u8 0, .int .u8 0, .int .u8 0, .int .u8 0, .int .u8 0, .int .u8 0, .int .u8 0, .int .u8 0, .int .u8 0, .int .u8 0, .int .u8 0, .int .u8 0, .int .u8 0, .int .i64 0])).run Tryd.prog w = .ok true w := by
      intro w
      have := eq_rng zeroR zeroR zeroA_ok zeroA_ok w
      rw [rngV_zero] at this ⊢
      exact this.trans (by simp)
    cases hfi : parseR s with
    | none =>
      rw [hfi] at hps
      cases ca : checkR a with
      | false =>
        rw [ca] at hpa hcka
        exact nb_An hc z18 z18 hpa hcka hps hEz
      | true =>
        rw [ca] at hpa hcka
        cases cb : checkR b with
        | false =>
          rw [cb] at hckb
          exact nb_Bn hc hc.q z18 hpa hcka hps hckb hEq hEz
        | true =>
          rw [cb] at hckb
          cases c1 : withinR a b with
          | true =>
            rw [c1] at hw1c
            exact nb_Cn hc hc.q z18 hpa hcka hps hckb hw1c hEq hEz
          | false =>
            rw [c1] at hw1c
            cases c2 : withinR b a with
            | true =>
              rw [c2] at hw2c
              exact nb_Dn hc hc.q z18 hpa hcka hps hckb hw1c hw2c hEq hEz
            | false =>
              rw [c2] at hw2c
              obtain ⟨c3, c4⟩ := apart a b ha.a hb.a ca cb c1 c2
              rw [c3] at hh1
              rw [c4] at hh2
              exact nb_En hc hc.q z18 hpa hcka hps hckb hw1c hw2c hh1 hh2 hEq hEz
    | some y =>
      obtain ⟨hyo, hyt⟩ := parseR_ok s y hfi
      rw [hfi] at hps
      have hty := fun w' hE => atext13_any y hyo w' hE
      rw [hyt] at hty
      have y18 := rng18 y hyo.a
      cases ca : checkR a with
      | false =>
        rw [ca] at hpa hcka
        exact nb_As hc z18 y18 hpa hcka hps hty
      | true =>
        rw [ca] at hpa hcka
        cases cb : checkR b with
        | false =>
          rw [cb] at hckb
          exact nb_Bs hc hc.q y18 hpa hcka hps hckb hEq hty
        | true =>
          rw [cb] at hckb
          cases c1 : withinR a b with
          | true =>
            rw [c1] at hw1c
            exact nb_Cs hc hc.q y18 hpa hcka hps hckb hw1c hEq hty
          | false =>
            rw [c1] at hw1c
            cases c2 : withinR b a with
            | true =>
              rw [c2] at hw2c
              exact nb_Ds hc hc.q y18 hpa hcka hps hckb hw1c hw2c hEq hty
            | false =>
              rw [c2] at hw2c
              obtain ⟨c3, c4⟩ := apart a b ha.a hb.a ca cb c1 c2
              rw [c3] at hh1
              rw [c4] at hh2
              exact nb_Es hc hc.q y18 hpa hcka hps hckb hw1c hw2c hh1 hh2 hEq hty
end Go.Proofs.YtflebnbpoboljaaDoor

/- LAYER 13's cards (as layer 12's): what the library's listed variables hold; a world for the witness; an address as an argument. -/
namespace Go.Proofs.YtflebnbpoboljaaDoor
open Go Go.ChangeShapes Go.WideShapes Go.ChangeAt Go.RowKit
set_option maxRecDepth 100000

theorem shape_most {W : World} (h : W.ShapedOpen Tryd.prog) : ∃ m, W.cell? ⟨0, 0, none⟩ = some (.int .i64 m) :=
  Go.Proofs.cell_of_shapedOpen_int (zero := #[.int .i64 0]) (t := 3) h (of_decide_eq_true (by kernel_rfl)) (by kernel_rfl) rfl (by kernel_rfl) (by kernel_rfl) Tryd.underlying3
theorem g64 : Tryd.prog.globalNamed "math/bits.deBruijn64tab" = some 5 := by kernel_rfl
theorem gSyn : Tryd.prog.globalNamed "strconv.ErrSyntax" = some 1 := by kernel_rfl
theorem gRng : Tryd.prog.globalNamed "strconv.ErrRange" = some 2 := by kernel_rfl
def bruijn64 : List Int := [0, 1, 56, 2, 57, 49, 28, 3, 61, 58, 42, 50, 38, 29, 17, 4, 62, 47, 59, 36, 45, 43, 51, 22, 53, 39, 33, 30, 24, 18, 12, 5, 63, 55, 48, 27, 60, 41, 37, 16, 46, 35, 44, 21, 52, 32, 23, 11, 54, 26, 40, 15, 34, 20, 31, 10, 25, 14, 19, 9, 13, 8, 7, 6]
theorem star_es : "*" ++ "errors.errorString" = "*errors.errorString" := by decide
theorem type_string_ptr : ∀ u, Tryd.prog.typeName? 3 u = some "*errors.errorString" → u = 118 := fun u h =>
  typeName_ptr_named (nm := "errors.errorString") (by rw [star_es]; kernel_rfl) (by kernel_rfl) (by decide) u (by rw [star_es]; exact h)
/-- What the listed variables hold, as far as package addr comes to them. -/
theorem env_of {W : World} (h : laidMet Tryd.prog Rows.netTellsRow.laid W) (hs : W.ShapedOpen Tryd.prog) : Env W := by
  have h1 := laidMet.tail h
  have h2 := laidMet.tail h1
  have h4 := laidMet.tail (laidMet.tail h2)
  have h5 := laidMet.tail h4
  have t64 : Lib.TabIs Tryd.prog W "math/bits.deBruijn64tab" .u8 bruijn64 := Lib.tabIs_of_head (zs := bruijn64) g64 (t := 133) (by kernel_rfl) Tryd.underlying133 Tryd.underlying5 (by kernel_rfl) (by kernel_rfl) h1
  have tPow : Lib.TabIs Tryd.prog W "internal/strconv.uint64pow10" .u64 Lib.pow10Tab := Lib.tabIs_of_head (zs := Lib.pow10Tab) gPow (t := 122) (by kernel_rfl) Tryd.underlying122 Tryd.underlying86 (by kernel_rfl) (by kernel_rfl) h2
  obtain ⟨aR, sR, hR, -⟩ := laid_sentinel h4 gRng (by kernel_rfl) Tryd.underlying43 type_string_ptr Tryd.underlying118 Tryd.underlying120 rfl rfl Tryd.underlying9 (by kernel_rfl) (by kernel_rfl)
  obtain ⟨aS, sS, hS, -⟩ := laid_sentinel h5 gSyn (by kernel_rfl) Tryd.underlying43 type_string_ptr Tryd.underlying118 Tryd.underlying120 rfl rfl Tryd.underlying9 (by kernel_rfl) (by kernel_rfl)
  refine ⟨shape_most hs, tPow, t64.cell g64 15 (by decide), ⟨_, by simpa using World.var?_cell gSyn hS 0, .inr ⟨_, _, rfl⟩⟩, ⟨_, by simpa using World.var?_cell gRng hR 0, .inr ⟨_, _, rfl⟩⟩⟩
/-! One start that fits: the library's tables and sentinels as their initialisers lay them. -/
def setCells12 (cs : List Value) : Obj → Obj
  | .cells _ t frozen => .cells cs.toArray t frozen
  | o => o
def bruijn32 : List Int := [0, 1, 28, 2, 29, 14, 24, 3, 30, 22, 20, 15, 25, 17, 4, 8, 31, 27, 13, 23, 21, 19, 16, 7, 26, 12, 18, 6, 11, 5, 10, 9]
def accept32 : List Int := [128, 191, 160, 191, 128, 159, 144, 191, 128, 143] ++ List.replicate 22 0
def synS : ByteArray := { data := #[105, 110, 118, 97, 108, 105, 100, 32, 115, 121, 110, 116, 97, 120] }
def rngS : ByteArray := { data := #[118, 97, 108, 117, 101, 32, 111, 117, 116, 32, 111, 102, 32, 114, 97, 110, 103, 101] }
/-- So many blocks has the settled world. -/
noncomputable def low12 : Nat := (World.holding Tryd.prog default ⟨#[], #[], []⟩).heap.size
noncomputable def libWorld (os : Os) : World :=
  let w0 := World.holding Tryd.prog os ⟨#[.cells #[.string rngS] 120, .cells #[.string synS] 120], #[], []⟩
  { w0 with heap := ((((((w0.heap.modify 4 (setCells12 (bruijn32.map (Value.int .u8)))).modify 5 (setCells12 (bruijn64.map (Value.int .u8)))).modify 3 (setCells12 (Lib.pow10Tab.map (Value.int .u64)))).modify
      7 (setCells12 (accept32.map (Value.int .u8)))).modify 6 (setCells12 (Go.Pinned.utf8FirstZ.map fun n : Nat => Value.int .u8 (n : Int)))).modify
      2 (setCells12 [.iface 118 (.pointer (some ⟨low12, 0, none⟩))])).modify 1 (setCells12 [.iface 118 (.pointer (some ⟨low12 + 1, 0, none⟩))]) }
theorem lib_met (os : Os) (args : Array Value) : laidMet Tryd.prog Rows.netTellsRow.laid ((libWorld os).forCall (fun _ _ => 0) ⟨#[], args, []⟩).memory :=
  laidMet_of_run' 8 (by kernel_rfl) (by kernel_rfl)
/-- An argument that is an address. -/
theorem open_adr {W : World} {r : Reach} {b0 : Nat} {v : Value} (hv : Value.okWide Tryd.prog W r b0 24 v) : ∃ a : Adr, a.Ok ∧ v = .agg (adrV a).toArray := by
  simp only [Value.okWide, Tryd.underlying24] at hv
  obtain ⟨cs, rfl, hsz, hrow⟩ := hv
  have h17 : cs.size = 17 := by rw [hsz]; kernel_rfl
  obtain ⟨ts, hts, -, hall⟩ := hrow
  have e : Tryd.prog.cellTypes Tryd.prog.depth 24 = some (4 :: List.replicate 16 5) := by kernel_rfl
  rw [e] at hts
  cases hts
  have hlen : (4 :: List.replicate 16 5).length = 17 := rfl
  have h0 : ∃ b, cs[0]? = some (.bool b) := by
    obtain ⟨u, hu, hc⟩ := hall 0 cs[0] (by simp [h17])
    rw [hlen] at hu
    cases hu
    unfold Cell.okWide Cell.ok at hc
    simp only [Tryd.underlying4] at hc
    cases hv : cs[0] <;> rw [hv] at hc <;> simp at hc
    rename_i bb
    exact ⟨bb, by simp [h17, hv]⟩
  have hb : ∀ i, 1 ≤ i → i < 17 → ∃ x : UInt8, cs[i]? = some (.int .u8 (x.toNat : Int)) := by
    intro i h1 h2
    obtain ⟨u, hu, hc⟩ := hall i (cs[i]'(by omega)) (by simp [h17, h2])
    rw [hlen, Nat.mod_eq_of_lt h2] at hu
    have hu8 : u = 5 := by
      obtain ⟨j, rfl⟩ : ∃ j, i = j + 1 := ⟨i - 1, by omega⟩
      rw [List.getElem?_cons_succ, List.getElem?_replicate, if_pos (by omega)] at hu
      exact (Option.some.inj hu).symm
    subst hu8
    unfold Cell.okWide Cell.ok at hc
    simp only [Tryd.underlying5] at hc
    cases hv : cs[i]'(by omega) <;> rw [hv] at hc <;> simp at hc
    rename_i k z
    obtain ⟨rfl, hz⟩ := hc
    have hz0 : 0 ≤ z ∧ z ≤ 255 := by
      have h := hz
      unfold IntKind.has at h
      exact ⟨h.1, h.2⟩
    refine ⟨UInt8.ofNat z.toNat, ?_⟩
    rw [Array.getElem?_eq_getElem (by omega), hv, UInt8.toNat_ofNat']
    congr 2
    omega
  obtain ⟨b0, e0⟩ := h0
  let l : List UInt8 := (List.range 16).map fun i => if h : 1 ≤ i + 1 ∧ i + 1 < 17 then Classical.choose (hb (i + 1) h.1 h.2) else 0
  refine ⟨⟨b0, l⟩, by show l.length = 16; simp [l], ?_⟩
  congr 1
  apply Array.ext_getElem?
  intro i
  cases i with
  | zero => exact e0
  | succ i =>
    have e2 : (adrV ⟨b0, l⟩).toArray[i + 1]? = (byts l)[i]? := by rw [List.getElem?_toArray]; rfl
    rw [e2]
    by_cases hi : i < 16
    · have hx := Classical.choose_spec (hb (i + 1) (by omega) (by omega))
      rw [hx, get_byts l i (by simp [l]; exact hi)]
      congr 3
      simp [l, hi]
      rw [dif_pos (by omega)]
    · rw [Array.getElem?_eq_none (by omega), List.getElem?_eq_none (by rw [length_byts]; simp [l]; omega)]
/-- An argument that is a range. -/
theorem open_rng {W : World} {r : Reach} {b0 : Nat} {v : Value} (hv : Value.okWide Tryd.prog W r b0 26 v) : ∃ a : Rng, a.Ok ∧ v = .agg (rngV a).toArray := by
  simp only [Value.okWide, Tryd.underlying26] at hv
  obtain ⟨cs, rfl, hsz, hrow⟩ := hv
  have h18 : cs.size = 18 := by rw [hsz]; kernel_rfl
  obtain ⟨ts, hts, -, hall⟩ := hrow
  have e : Tryd.prog.cellTypes Tryd.prog.depth 26 = some (4 :: (List.replicate 16 5 ++ [3])) := by kernel_rfl
  rw [e] at hts
  cases hts
  have hlen : (4 :: (List.replicate 16 5 ++ [3])).length = 18 := rfl
  have h0 : ∃ b, cs[0]? = some (.bool b) := by
    obtain ⟨u, hu, hc⟩ := hall 0 cs[0] (by simp [h18])
    rw [hlen] at hu
    cases hu
    unfold Cell.okWide Cell.ok at hc
    simp only [Tryd.underlying4] at hc
    cases hv : cs[0] <;> rw [hv] at hc <;> simp at hc
    rename_i bb
    exact ⟨bb, by simp [h18, hv]⟩
  have hn : ∃ n : Int, -9223372036854775808 ≤ n ∧ n ≤ 9223372036854775807 ∧ cs[17]? = some (.int .i64 n) := by
    obtain ⟨u, hu, hc⟩ := hall 17 (cs[17]'(by omega)) (by simp [h18])
    rw [hlen] at hu
    cases hu
    unfold Cell.okWide Cell.ok at hc
    simp only [Tryd.underlying3] at hc
    cases hv : cs[17]'(by omega) <;> rw [hv] at hc <;> simp at hc
    rename_i k z
    obtain ⟨rfl, hz⟩ := hc
    unfold IntKind.has at hz
    exact ⟨z, hz.1, hz.2, by rw [Array.getElem?_eq_getElem (by omega), hv]⟩
  have hb : ∀ i, 1 ≤ i → i < 17 → ∃ x : UInt8, cs[i]? = some (.int .u8 (x.toNat : Int)) := by
    intro i h1 h2
    obtain ⟨u, hu, hc⟩ := hall i (cs[i]'(by omega)) (by simp)
    rw [hlen, Nat.mod_eq_of_lt (by omega)] at hu
    have hu8 : u = 5 := by
      obtain ⟨j, rfl⟩ : ∃ j, i = j + 1 := ⟨i - 1, by omega⟩
      rw [List.getElem?_cons_succ, List.getElem?_append_left (by rw [List.length_replicate]; omega), List.getElem?_replicate, if_pos (by omega)] at hu
      exact (Option.some.inj hu).symm
    subst hu8
    unfold Cell.okWide Cell.ok at hc
    simp only [Tryd.underlying5] at hc
    cases hv : cs[i]'(by omega) <;> rw [hv] at hc <;> simp at hc
    rename_i k z
    obtain ⟨rfl, hz⟩ := hc
    have hz0 : 0 ≤ z ∧ z ≤ 255 := by
      have h := hz
      unfold IntKind.has at h
      exact ⟨h.1, h.2⟩
    refine ⟨UInt8.ofNat z.toNat, ?_⟩
    rw [Array.getElem?_eq_getElem (by omega), hv, UInt8.toNat_ofNat']
    congr 2
    omega
  obtain ⟨b0, e0⟩ := h0
  obtain ⟨n, n0, n1, en⟩ := hn
  let l : List UInt8 := (List.range 16).map fun i => if h : 1 ≤ i + 1 ∧ i + 1 < 17 then Classical.choose (hb (i + 1) h.1 h.2) else 0
  have hll : l.length = 16 := by simp [l]
  refine ⟨⟨⟨b0, l⟩, n⟩, ⟨hll, n0, n1⟩, ?_⟩
  congr 1
  apply Array.ext_getElem?
  intro i
  have er : (rngV ⟨⟨b0, l⟩, n⟩).toArray[i]? = (Value.bool b0 :: (byts l ++ [Value.int .i64 n]))[i]? := by rw [List.getElem?_toArray]; rfl
  rw [er]
  cases i with
  | zero => exact e0
  | succ i =>
    rw [List.getElem?_cons_succ]
    by_cases hi : i < 16
    · have hx := Classical.choose_spec (hb (i + 1) (by omega) (by omega))
      rw [hx, List.getElem?_append_left (by rw [length_byts, hll]; exact hi), get_byts l i (by rw [hll]; exact hi)]
      congr 3
      simp [l, hi]
      rw [dif_pos (by omega)]
    · by_cases h16 : i = 16
      · subst h16
        rw [en, List.getElem?_append_right (by rw [length_byts, hll]; exact Nat.le_refl _), length_byts, hll]; rfl
      · rw [Array.getElem?_eq_none (by omega), List.getElem?_eq_none (by rw [List.length_append, length_byts, hll]; simp; omega)]
theorem hw_of_ints (zs : List Int) (h : ∀ j, j < zs.length → 0 ≤ zs.getD j 0 ∧ zs.getD j 0 ≤ 65535) : ∃ l : List Nat, l.length = zs.length ∧ (∀ n ∈ l, n ≤ 65535) ∧ zs.map (Value.int .u16) = hwV l := by
  induction zs with
  | nil => exact ⟨[], rfl, (fun n hn => by cases hn), rfl⟩
  | cons z zs ih =>
    have h0 := h 0 (by simp)
    obtain ⟨l, h1, h2, h3⟩ := ih (fun j hj => by simpa using h (j + 1) (by simpa using hj))
    simp only [List.getD_cons_zero] at h0
    refine ⟨z.toNat :: l, by simp [h1], fun n hn => ?_, ?_⟩
    · rcases List.mem_cons.1 hn with rfl | hn
      · omega
      · exact h2 n hn
    · show Value.int .u16 z :: zs.map (Value.int .u16) = Value.int .u16 (z.toNat : Int) :: hwV l
      rw [h3]
      congr 2
      omega
end Go.Proofs.YtflebnbpoboljaaDoor

namespace Go.Proofs.YtflebnbpoboljaaDoor.netBack
open Go.ChangeShapes Go.WideShapes Go.ChangeAt Go.RowKit

set_option maxRecDepth 100000 in
theorem contract (H : Type) (enc : TypeId × Value → H) (W : World) (base : Nat) (args : Array Value) (ds gs : List (DataW H)) (before : List MemPlace)
    (hval : ∀ (j : Nat) t v, Tryd.f5.params[j]? = some t → args[j]? = some v → Value.okWide Tryd.prog W .any base t v)
    (hW : DataW.Whole enc Tryd.prog Tryd.f5.params.toList Rows.netBackSpec.vars false W args.toList ds gs before) (hL : laidMetH Tryd.prog Rows.netBackRow.laid W) (hSh : W.ShapedOpen Tryd.prog) :
    Calls Tryd.prog 5 args W fun e W' => ∃ v, e = .returned v ∧ Rows.netBackSpec.post enc Tryd.prog Tryd.f5 false true false false W args v W' := by
  have hW' := hW
  obtain ⟨p, q, hA0, hV, rfl, hfz, hnd⟩ := hW
  have hA : DataW.TrodAll enc Tryd.prog W 0 (fun _ => true) true Tryd.f5.params.toList args.toList ds p := hA0
  rw [Tryd.params5] at hA hval
  obtain ⟨v0, vs0, d0, ds0, p0, q0, hargs, rfl, rfl, h0, r0⟩ := trodAll_cons hA
  obtain ⟨v1, vs1, d1, ds1, p1, q1, rfl, rfl, rfl, h1, r1⟩ := trodAll_cons r0
  obtain ⟨v2, vs2, d2, ds2, p2, q2, rfl, rfl, rfl, h2, r2⟩ := trodAll_cons r1
  obtain ⟨rfl, rfl, rfl⟩ := trodAll_nil r2
  obtain rfl : args = #[v0, v1, v2] := by cases args; simp_all
  obtain ⟨rfl, rfl⟩ := trodVars_none hV
  have hT := env_of hL hSh
  have k0 := h0
  have lt0 : ∀ x ∈ p0, x.block < W.heap.size := by obtain ⟨m, hm⟩ := k0; exact DataW.trod_lt m _ _ _ hm
  have k1 := h1
  have lt1 : ∀ x ∈ p1, x.block < W.heap.size := by obtain ⟨m, hm⟩ := k1; exact DataW.trod_lt m _ _ _ hm
  have k2 := h2
  have lt2 : ∀ x ∈ p2, x.block < W.heap.size := by obtain ⟨m, hm⟩ := k2; exact DataW.trod_lt m _ _ _ hm
  obtain ⟨a0, ha0, rfl⟩ := open_rng (hval 0 26 v0 rfl rfl)
  obtain ⟨a1, ha1, rfl⟩ := open_rng (hval 1 26 v1 rfl rfl)
  obtain ⟨s2, rfl, rfl, rfl, hs2⟩ := Go.ChangeMaps.open_string Tryd.underlying9 (hval 2 9 v2 rfl rfl) h2
  obtain ⟨l2, rfl⟩ := bytes_str s2
  refine (nback_walk a0 ha0 a1 ha1 l2 W hT).mono fun e W' ⟨he, bel⟩ => ?_
  subst he
  exact ⟨_, rfl, _, _, _, [], _, [], hW', trodAll_mk1 (shut_bool Tryd.underlying4 _), (trodAll_cons_mk (Below.trod laidOut (by kernel_rfl) (of_decide_eq_true (by kernel_rfl)) k0 bel lt0) (trodAll_cons_mk (Below.trod laidOut (by kernel_rfl) (of_decide_eq_true (by kernel_rfl)) k1 bel lt1) (trodAll_cons_mk (Below.trod laidOut (by kernel_rfl) (of_decide_eq_true (by kernel_rfl)) k2 bel lt2) trodAll_mk0))), rfl, bel.frame _, fun h => by cases h⟩
theorem laid_met (os : Os) : laidMet Tryd.prog Rows.netBackRow.laid ((libWorld os).forCall (fun _ _ => 0) ⟨#[], #[.agg (rngV zeroR).toArray, .agg (rngV zeroR).toArray, .string { data := #[] }], []⟩).memory :=
  lib_met os _
theorem reads (os : Os) {H : Type} (enc : TypeId × Value → H) : ∃ places, DataW.whole enc Tryd.prog ((libWorld os).forCall (fun _ _ => 0) ⟨#[], #[.agg (rngV zeroR).toArray, .agg (rngV zeroR).toArray, .string { data := #[] }], []⟩).memory Tryd.f5.params.toList Rows.netBackSpec.vars false (#[.agg (rngV zeroR).toArray, .agg (rngV zeroR).toArray, .string { data := #[] }] : Array Value).toList 8 = some ([.agg [.agg [.lit (.bool false), .agg (List.replicate 16 (.lit (.int .u8 0)))], .lit (.int .i64 0)], .agg [.agg [.lit (.bool false), .agg (List.replicate 16 (.lit (.int .u8 0)))], .lit (.int .i64 0)], .lit (.string [])], [], places) :=
  ⟨[], by kernel_rfl⟩
set_option maxRecDepth 100000 in
theorem lifted (os : Os) (started : os.Started) (H : Type) (enc : TypeId × Value → H) (F : Stop.Interp) :
    ReturnsInHanded {} Tryd.checked os 5 .any ((OpenSpec.ofChange Rows.netBackSpec).preRow enc Tryd.prog Tryd.f5 Rows.netBackRow.domain false Rows.netBackRow.laid) (((OpenSpec.ofChange Rows.netBackSpec).at F).post enc Tryd.prog Tryd.f5 false true false false) := by
  obtain ⟨places, hx⟩ := reads os enc
  refine returnsInHanded_of_row (C := Tryd.checked) (s := OpenSpec.ofChange Rows.netBackSpec) own started (by kernel_rfl) Tryd.func5
    (witness_row_at (enc := enc) (C := Tryd.checked) false (libWorld os) #[.agg (rngV zeroR).toArray, .agg (rngV zeroR).toArray, .string { data := #[] }] rfl (by kernel_rfl) (by kernel_rfl) (by kernel_rfl)
      (OpenSpec.preRow_of_cond 8 hx (by kernel_rfl) (fun k hk => by cases hk) (by kernel_rfl) (laid_met os))) ?_
  intro W base args ds gs before hval hW _ _ _ hL hSh _
  exact contract H enc W base args ds gs before hval hW hL hSh
theorem said : Rows.NetBackSaid :=
  OpenClaim.holds_of_cond 5 Tryd.f5 rfl rfl rfl rfl rfl rfl rfl ⟨rfl, rfl, rfl, rfl, rfl⟩ rfl rfl rfl rfl rfl (by kernel_rfl) Tryd.func5 (by kernel_rfl)
    (of_decide_eq_true (by kernel_rfl)) (by unfold Func.isWrapper; first | (rw [if_pos (by decide +kernel)]; kernel_rfl) | (rw [if_neg (by decide +kernel)]; exact ⟨rfl, rfl⟩))
    (fun os started H enc _ F => by rw [OpenClaim.pre_eq_preRow]; exact lifted os started H enc F)
/-- No parameter wants a stand-in; the program's own looks are off. -/
theorem plain (f : FuncId) (fn : Func) (hf : Tryd.pinned.checked.prog.funcNamed "chitty/chittylaw13.NetBack" = some f) (hfn : Tryd.pinned.checked.prog.funcs[f]? = some fn) :
    true = Tryd.pinned.checked.prog.looks [] ∧ ∀ (j : Nat) t, fn.params[j]? = some t → Tryd.pinned.checked.prog.wantsStandIn t = false := by
  obtain rfl : f = 5 := Option.some.inj ((show Tryd.prog.funcNamed "chitty/chittylaw13.NetBack" = some 5 by kernel_rfl).symm.trans hf) |>.symm
  obtain rfl : fn = Tryd.f5 := (Option.some.inj (Tryd.func5.symm.trans hfn)).symm
  refine ⟨by kernel_rfl, fun j t ht => ?_⟩
  rw [Tryd.params5] at ht
  have hm := Array.mem_of_getElem? ht
  simp only [List.mem_toArray, List.mem_cons, List.not_mem_nil, or_false] at hm
  rcases hm with rfl | rfl | rfl
  · exact (show Tryd.prog.wantsStandIn 26 = false by kernel_rfl)
  · exact (show Tryd.prog.wantsStandIn 26 = false by kernel_rfl)
  · exact (show Tryd.prog.wantsStandIn 9 = false by kernel_rfl)
theorem card : Rows.NetBackCardSaid :=
  Claim7.holds_tied_plain_at .later [] _ _ _ _ said (fun _ h => by cases h) (by kernel_rfl) (fun _ h => by cases h) netBack_row_tie rfl ⟨rfl, rfl⟩ (by kernel_rfl) rfl plain (by kernel_rfl)
end Go.Proofs.YtflebnbpoboljaaDoor.netBack
