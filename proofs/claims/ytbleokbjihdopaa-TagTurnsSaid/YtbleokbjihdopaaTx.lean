/- LAYER 5: package tag's Text: two digits of 16 for each byte. -/
import Derived.Test.YtbleokbjihdopaaTg
namespace Go.Proofs.Ytbleokbjihdopaa
open Go Go.RowKit

/-- A number's digit of 16. -/
def hexD (n : Nat) : UInt8 := if n < 10 then UInt8.ofNat (48 + n) else UInt8.ofNat (87 + n)
def hex2 (x : UInt8) : List UInt8 := [hexD (x.toNat / 16), hexD (x.toNat % 16)]
/-- The digits of all bytes. -/
def hexL (t : List UInt8) : List UInt8 := t.flatMap hex2
theorem length_hexL (t : List UInt8) : (hexL t).length = 2 * t.length := by
  unfold hexL
  induction t with
  | nil => rfl
  | cons x t ih => rw [List.flatMap_cons, List.length_append, ih]; simp [hex2]; omega
theorem hexL_succ (t : List UInt8) (k : Nat) (h : k < t.length) : hexL (t.take (k + 1)) = hexL (t.take k) ++ hex2 (t.getD k 0) := by
  unfold hexL
  rw [List.take_add_one, List.flatMap_append]
  simp [h]
theorem digit_at (h : Nat) (hh : h < 16) (w : World) : (Instr.index 9 (.string { data := #[48, 49, 50, 51, 52, 53, 54, 55, 56, 57, 97, 98, 99, 100, 101, 102] }) (.int .u8 (h : Int))).run Try.prog w = .ok (.int .u8 ((hexD h).toNat : Int)) w := by
  have : h = 0 ∨ h = 1 ∨ h = 2 ∨ h = 3 ∨ h = 4 ∨ h = 5 ∨ h = 6 ∨ h = 7 ∨ h = 8 ∨ h = 9 ∨ h = 10 ∨ h = 11 ∨ h = 12 ∨ h = 13 ∨ h = 14 ∨ h = 15 := by omega
  clear hh
  rcases this with rfl | rfl | rfl | rfl | rfl | rfl | rfl | rfl | rfl | rfl | rfl | rfl | rfl | rfl | rfl | rfl <;> rfl
theorem u8_and15 (x : UInt8) : bits .and .u8 (x.toNat : Int) 15 = ((x.toNat % 16 : Nat) : Int) := by
  show IntKind.u8.wrap ((BitVec.ofInt 8 (x.toNat : Int) &&& BitVec.ofInt 8 15).toNat : Int) = _
  have e : BitVec.ofInt 8 (x.toNat : Int) = x.toBitVec := by show BitVec.ofInt 8 (x.toBitVec.toNat : Int) = x.toBitVec; simp
  rw [e, BitVec.toNat_and, show (BitVec.ofInt 8 15).toNat = 2 ^ 4 - 1 by decide, Nat.and_two_pow_sub_one_eq_mod, IntKind.wrap_u8]
  show (((x.toNat % 2 ^ 4 : Nat) : Int)) % 256 = _
  omega
theorem index_tag (V : List UInt8) (hl : V.length = 32) (k : Nat) (hk : k < 32) (w : World) :
    (Instr.index 25 (.agg (byts V).toArray) (.int .i64 k)).run Try.prog w = .ok (.int .u8 ((V.getD k 0).toNat : Int)) w := by
  have hc : (byts V).toArray[k]? = some (.int .u8 ((V.getD k 0).toNat : Int)) := by
    rw [List.getElem?_toArray, get_byts _ _ (by omega)]
  have h1 : (Go.part 5 (byts V).toArray k).run Try.prog w = .ok (.int .u8 ((V.getD k 0).toNat : Int)) w := by
    simp only [Go.part, isAgg, Sem.run_bind, run_underlying Try.underlying5, Result.andThen_ok, Sem.run_pure, hc]
    rfl
  simp [Instr.index, asIntOf, run_underlying Try.underlying25, hk, h1]
theorem set_two (X rest : List Value) (n : Nat) (hn : X.length = n) (y z a b : Value) : ((X ++ y :: z :: rest).set n a).set (n + 1) b = (X ++ [a, b]) ++ rest := by
  subst hn
  rw [List.set_append_right _ _ (Nat.le_refl _), Nat.sub_self, List.set_cons_zero, List.set_append_right _ _ (by omega), show X.length + 1 - X.length = 1 by omega, List.set_cons_succ, List.set_cons_zero, List.append_assoc]
  rfl
theorem text_any (t : List UInt8) (ht : t.length = 32) (w : World) :
    Calls Try.prog 11 #[.agg (byts t).toArray] w fun e w' => e = .returned (.string (bstr (hexL t))) ∧ Below w.heap.size w w' := by
  obtain ⟨V, hV⟩ : ∃ V, V = byts t := ⟨_, rfl⟩
  have hVl : V.length = 32 := by rw [hV, length_byts, ht]
  have hsz := Lib.hid (show (Try.prog.info? 25).map (·.size) = some V.toArray.size by rw [size_tag, List.size_toArray, hVl])
  have HV := Lib.hid hV
  rw [← hV]
  clear hV hVl
  go_enter Try.func11, Try.ntmps11
  go_wp2_with (with_reducible refine wpList_load_row rfl 25 (.tmp 1) rfl w.heap.size rfl 25 V.toArray (0, 0) _ (heap_alloc2_old w _ _) Try.underlying25 rfl hsz.out ?_)
  have hnew : Row ((w.alloc (.cells V.toArray 25)).alloc (.cells (List.replicate 64 (Value.int .u8 0)).toArray 40)) (w.heap.size + 1) 40 (List.replicate 64 (.int .u8 0)) := heap_alloc2_new w _ _
  have hb0 := below_two w (.cells V.toArray 25) (.cells (List.replicate 64 (Value.int .u8 0)).toArray 40)
  go_loopw [7] (fun i wr => ∃ k : Nat, k ≤ 32 ∧ i = .int .i64 k ∧ Row wr (w.heap.size + 1) 40 (byts (hexL (t.take k)) ++ List.replicate (64 - 2 * k) (.int .u8 0)) ∧ Below w.heap.size w wr) (fun i _ => 32 - (intOf i).toNat)
  case atStart => exact ⟨0, by omega, rfl, hnew, hb0⟩
  case round =>
    clear hnew hb0
    obtain ⟨k, hk, rfl, hrow, hb⟩ := hrel
    by_cases hlt : k < 32
    · have hix := index_tag t ht k hlt
      rw [← HV.out] at hix
      have HS := Lib.hid (hexL_succ t k (by omega))
      have hXl : (hexL (t.take k)).length = 2 * k := by rw [length_hexL, List.length_take]; omega
      generalize hexL (t.take k) = X at *
      generalize t.getD k 0 = x at *
      have hd1 : ∀ w, (Instr.index 9 (.string { data := #[48, 49, 50, 51, 52, 53, 54, 55, 56, 57, 97, 98, 99, 100, 101, 102] }) (.int .u8 ((x.toNat : Int) / 16))).run Try.prog w = .ok (.int .u8 ((hexD (x.toNat / 16)).toNat : Int)) w := digit_at (x.toNat / 16) (by have := x.toNat_lt; omega)
      have hd2 : ∀ w, (Instr.index 9 (.string { data := #[48, 49, 50, 51, 52, 53, 54, 55, 56, 57, 97, 98, 99, 100, 101, 102] }) (.int .u8 ((x.toNat : Int) % 16))).run Try.prog w = .ok (.int .u8 ((hexD (x.toNat % 16)).toNat : Int)) w := digit_at (x.toNat % 16) (by omega)
      have HX := Lib.hid (show hex2 x = [hexD (x.toNat / 16), hexD (x.toNat % 16)] from rfl)
      generalize hexD (x.toNat / 16) = a at *
      generalize hexD (x.toNat % 16) = b at *
      have h15 := u8_and15 x
      have hI0 : IntKind.i64.wrap (2 * (k : Int)) = 2 * (k : Int) := by rw [IntKind.wrap_i64]; omega
      have hI1 : (0 : Int) ≤ 2 * (k : Int) := by omega
      have hI2 : 2 * (k : Int) < 64 := by omega
      have hI3 : (2 * (k : Int)).toNat = 2 * k := by omega
      have hJ2 : 2 * (k : Int) + 1 < 64 := by omega
      have hJ3 : (2 * (k : Int) + 1).toNat = 2 * k + 1 := by omega
      have hr0 : byts X ++ List.replicate (64 - 2 * k) (Value.int .u8 0) = byts X ++ (.int .u8 0 :: .int .u8 0 :: List.replicate (64 - 2 * (k + 1)) (Value.int .u8 0)) := by rw [show 64 - 2 * k = 64 - 2 * (k + 1) + 1 + 1 by omega]; rfl
      rw [hr0] at hrow
      have hc1 : wr.cell? ⟨w.heap.size + 1, 2 * k, none⟩ = some (.int .u8 0) := by rw [hrow.cell, List.getElem?_append_right (by rw [length_byts, hXl]; exact Nat.le_refl _), length_byts, hXl, Nat.sub_self]; rfl
      have hc2 : wr.cell? ⟨w.heap.size + 1, 2 * k + 1, none⟩ = some (.int .u8 0) := by rw [hrow.cell, List.getElem?_append_right (by rw [length_byts, hXl]; omega), length_byts, hXl, show 2 * k + 1 - 2 * k = 1 by omega]; rfl
      have hf1 := hrow.free (2 * k)
      have hf2 := hrow.free (2 * k + 1)
      have HL := Lib.hid hXl
      clear hr0 hXl
      go_wp2
      go_roundw
      case rel =>
        refine ⟨k + 1, by omega, by go_num, ?_, ?_⟩
        · have h := (hrow.set (2 * k) (.int .u8 (a.toNat : Int))).set (2 * k + 1) (.int .u8 (b.toNat : Int))
          rw [set_two _ _ _ (by rw [length_byts]; exact HL.out)] at h
          rw [HS.out, HX.out, byts_append]
          exact h
        · exact (hb.grown (grown_setCell _ _ _ _) hb.size (fun k h => by cases h; omega)).grown (grown_setCell _ _ _ _) (by rw [World.size_setCell]; exact hb.size) (fun k h => by cases h; omega)
      case measure => simp [intOf]; omega
    · obtain rfl : k = 32 := by omega
      rw [show 64 - 2 * 32 = 0 from rfl, List.replicate_zero, List.take_of_length_le (by omega)] at hrow
      have hl : (hexL t).length = 64 := by rw [length_hexL, ht]
      have hsl : Sl wr (some ⟨w.heap.size + 1, 0, none⟩) 64 (byts (hexL t)) := ⟨Rd.row hrow, by rw [length_byts, hl]; exact Nat.le_refl _, fun h => by cases h⟩
      have hcv := conv_bytes hsl 64 hl.symm
      clear hsl hl hrow
      go_wp2
      go_ret
      exact ⟨rfl, hb⟩
end Go.Proofs.Ytbleokbjihdopaa
