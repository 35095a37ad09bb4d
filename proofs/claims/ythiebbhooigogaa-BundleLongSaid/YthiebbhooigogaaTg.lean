/- LAYER 5: package tag: bytes held against each other; 32 bytes as a tag. -/
import Derived.Test.YthiebbhooigogaaB1
import Derived.Test.YthiebbhooigogaaMw
import Derived.Test.YthiebbhooigogaaS
namespace Go.Proofs.Ythiebbhooigogaa
open Go Go.RowKit

/-! ### Numbers of 64 bits that are none below 0 -/
theorem ofInt64 (a : Nat) : BitVec.ofInt 64 (a : Int) = BitVec.ofNat 64 a := by simp
theorem nat_xor (a b : Nat) (ha : a < 9223372036854775808) (hb : b < 9223372036854775808) : bits .xor .i64 (a : Int) (b : Int) = ((a ^^^ b : Nat) : Int) := by
  show IntKind.i64.wrap ((BitVec.ofInt 64 (a : Int) ^^^ BitVec.ofInt 64 (b : Int)).toNat : Int) = _
  have h : a ^^^ b < 2 ^ 63 := Nat.xor_lt_two_pow (by omega) (by omega)
  rw [ofInt64, ofInt64, BitVec.toNat_xor, BitVec.toNat_ofNat, BitVec.toNat_ofNat, Nat.mod_eq_of_lt (by omega), Nat.mod_eq_of_lt (by omega), IntKind.wrap_i64]
  omega
theorem nat_or (a b : Nat) (ha : a < 9223372036854775808) (hb : b < 9223372036854775808) : bits .or .i64 (a : Int) (b : Int) = ((a ||| b : Nat) : Int) := by
  show IntKind.i64.wrap ((BitVec.ofInt 64 (a : Int) ||| BitVec.ofInt 64 (b : Int)).toNat : Int) = _
  have h : a ||| b < 2 ^ 63 := Nat.or_lt_two_pow (by omega) (by omega)
  rw [ofInt64, ofInt64, BitVec.toNat_or, BitVec.toNat_ofNat, BitVec.toNat_ofNat, Nat.mod_eq_of_lt (by omega), Nat.mod_eq_of_lt (by omega), IntKind.wrap_i64]
  omega

/-! ### Bytes held against each other -/
/-- What has been found unlike behind j bytes. -/
def unlikeL (l k : List UInt8) : Nat → Nat
  | 0 => l.length ^^^ k.length
  | j + 1 => unlikeL l k j ||| (l.getD j 0 ^^^ k.getD j 0).toNat
theorem unlike_lt (l k : List UInt8) (hl : l.length < 9223372036854775808) (hk : k.length < 9223372036854775808) (j : Nat) : unlikeL l k j < 9223372036854775808 := by
  induction j with
  | zero =>
    show l.length ^^^ k.length < 2 ^ 63
    exact Nat.xor_lt_two_pow (by omega) (by omega)
  | succ j ih =>
    have := (l.getD j 0 ^^^ k.getD j 0).toNat_lt
    show unlikeL l k j ||| (l.getD j 0 ^^^ k.getD j 0).toNat < 2 ^ 63
    exact Nat.or_lt_two_pow (by omega) (by omega)
theorem or_zero (a b : Nat) : a ||| b = 0 ↔ a = 0 ∧ b = 0 := by
  constructor
  · intro h
    have h1 : a ≤ a ||| b := Nat.left_le_or
    have h2 : b ≤ a ||| b := Nat.right_le_or
    omega
  · rintro ⟨rfl, rfl⟩; rfl
theorem xor_zero (a b : Nat) : a ^^^ b = 0 ↔ a = b := by
  constructor
  · intro h
    apply Nat.eq_of_testBit_eq
    intro i
    have := congrArg (fun n => n.testBit i) h
    simpa using this
  · rintro rfl; exact Nat.xor_self _
theorem xor_zero8 (a b : UInt8) : (a ^^^ b).toNat = 0 ↔ a = b := by
  rw [← UInt8.xor_eq_zero_iff, ← UInt8.toNat_inj]; rfl
theorem unlike_zero (l k : List UInt8) (j : Nat) : unlikeL l k j = 0 ↔ l.length = k.length ∧ ∀ i, i < j → l.getD i 0 = k.getD i 0 := by
  induction j with
  | zero =>
    show l.length ^^^ k.length = 0 ↔ _
    rw [xor_zero]
    exact ⟨fun h => ⟨h, fun i hi => absurd hi (Nat.not_lt_zero _)⟩, fun h => h.1⟩
  | succ j ih =>
    show unlikeL l k j ||| (l.getD j 0 ^^^ k.getD j 0).toNat = 0 ↔ _
    rw [or_zero, ih, xor_zero8]
    constructor
    · rintro ⟨⟨h1, h2⟩, h3⟩
      refine ⟨h1, fun i hi => ?_⟩
      by_cases e : i = j
      · rw [e]; exact h3
      · exact h2 i (by omega)
    · rintro ⟨h1, h2⟩
      exact ⟨⟨h1, fun i hi => h2 i (by omega)⟩, h2 j (by omega)⟩
theorem unlike_end (l k : List UInt8) (j : Nat) (hl : l.length ≤ j) : decide (unlikeL l k j = 0) = decide (l = k) := by
  rw [decide_eq_decide, unlike_zero]
  constructor
  · rintro ⟨h1, h2⟩
    apply List.ext_getElem h1
    intro i h3 h4
    have := h2 i (by omega)
    simpa [h3, h4] using this
  · rintro rfl
    exact ⟨rfl, fun _ _ => rfl⟩
/-! ### 32 bytes as a tag -/
def zeroT : List UInt8 := List.replicate 32 0
theorem zero_tag (w : World) : (Instr.build 25 #[]).run Try.prog w = .ok (.agg (byts zeroT).toArray) w := by kernel_rfl
theorem zero_cells : (List.replicate 32 (Value.int .u8 0)) = byts zeroT := by kernel_rfl
/-- What Of answers. -/
def ofT (l : List UInt8) : List UInt8 := if l.length = 32 then l else zeroT
def tagV (l : List UInt8) (ok : Bool) : Value := .tuple #[.agg (byts l).toArray, .bool ok]
theorem length_ofT (l : List UInt8) : (ofT l).length = 32 := by
  unfold ofT; split
  · assumption
  · rfl
theorem tof_any (A : Option Addr) (n c : Nat) (l : List UInt8) (w : World) (hs : Sl w A c (byts l)) (hn : n = l.length) :
    Calls Try.prog 67 #[.slice A n c] w fun e w' => e = .returned (tagV (ofT l) (decide (l.length = 32))) ∧ Below w.heap.size w w' := by
  subst hn
  by_cases h32 : l.length = 32
  · obtain ⟨b, o, rfl, hb, _⟩ := hs.rd.get (i := 0) (by rw [length_byts]; omega)
    have e1 : ofT l = l := by unfold ofT; rw [if_pos h32]
    rw [e1, decide_eq_true h32]
    have hr : ∀ ob, (w.alloc ob).rangeAt b o (byts l) := fun ob => (hs.later (Nat.le_refl _) ((Below.refl _ w).alloc (Nat.le_refl _) ob)).range
    obtain ⟨V, hV⟩ : ∃ V, V = byts l := ⟨_, rfl⟩
    have hVl : V.length = 32 := by rw [hV, length_byts]; exact h32
    have hone := Lib.hid (all_one (show ∀ v ∈ V, v.oneCell' = true by rw [hV]; exact byts_one _))
    have hszl := Lib.hid (show (Try.prog.info? 25).map (·.size) = some V.length by rw [size_tag, hVl])
    have hsz := Lib.hid (show (Try.prog.info? 25).map (·.size) = some V.toArray.size by rw [size_tag, List.size_toArray, hVl])
    have h32' := Lib.hid (show 32 = V.toArray.size by rw [List.size_toArray, hVl])
    rw [← hV] at hr
    have HV := Lib.hid hV
    have HR := Lib.hid hr
    have hconv : ∀ w, (Instr.arrayAt 25 (.slice (some ⟨b, o, none⟩) 32 c)).run Try.prog w = .ok (.pointer (some ⟨b, o, none⟩)) w := run_arrayAt 25 _ 32 Try.underlying25 _ 32 c (Nat.le_refl _)
    clear hV hVl hs e1 hr
    go_enter Try.func67, Try.ntmps67
    go_wp2_with (first
      | (with_reducible refine wpList_load_mid rfl 25 (.tmp 9) rfl b o rfl V _ (HR.out _) Try.underlying25 rfl hszl.out ?_)
      | (with_reducible refine wpList_store_row rfl 25 (.tmp 2) (.tmp 10) rfl w.heap.size V.toArray rfl rfl 25 _ (heap_alloc_new w _) hsz.out (Eq.trans (by kernel_rfl) h32'.out) hone.out ?_; refine Hid.out ?_))
    refine Lib.hid ?_
    generalize hw4 : World.setRow _ _ _ = w4
    obtain ⟨r4, hb4⟩ := row_new_set (xs := V) hw4
    have R4 := Lib.hid r4
    clear hw4 r4
    go_wp2_with fail
    exact ⟨rfl, _, results_row_tmp rfl _ _ w.heap.size 25 V.toArray (0, 0) (.array 32 5) rfl R4.out Try.underlying25 rfl hsz.out _ rfl, by rw [HV.out]; rfl, hb4⟩
  · have e1 : ofT l = zeroT := by unfold ofT; rw [if_neg h32]
    rw [e1, decide_eq_false h32]
    clear hs e1
    have hn : ((l.length : Int) == 32) = false := by rw [beq_eq_false_iff_ne]; omega
    generalize l.length = n at *
    go_enter Try.func67, Try.ntmps67
    go_wp2_with (with_reducible refine wpList_store_row rfl 25 (.tmp 2) (.tmp 7) rfl w.heap.size _ rfl rfl 25 _ (heap_alloc_new w _) (by kernel_rfl) (by kernel_rfl) (by kernel_rfl) ?_; refine Hid.out ?_)
    refine Lib.hid ?_
    generalize hw4 : World.setRow _ _ _ = w4
    obtain ⟨r4, hb4⟩ := row_new_set hw4
    have r4 : Row w4 w.heap.size 25 (byts zeroT) := by rw [← zero_cells]; exact r4
    have R4 := Lib.hid r4
    clear hw4 r4
    go_wp2_with fail
    exact ⟨rfl, _, results_row_tmp rfl _ _ w.heap.size 25 (byts zeroT).toArray (0, 0) (.array 32 5) rfl R4.out Try.underlying25 rfl (by rw [size_tag, List.size_toArray, length_byts]; rfl) _ rfl, rfl, hb4⟩
end Go.Proofs.Ythiebbhooigogaa
