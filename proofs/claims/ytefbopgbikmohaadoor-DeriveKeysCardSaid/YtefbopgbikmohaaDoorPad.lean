/- LAYER 2: what is put behind a message: package block's Pad, and the document's. -/
import Derived.Test.YtefbopgbikmohaaDoorB1
import Derived.Test.YtefbopgbikmohaaDoorMw
import Derived.Test.YtefbopgbikmohaaDoorZ
namespace Go.Proofs.YtefbopgbikmohaaDoor
open Go.RowKit

/-- How many bytes 0. -/
def noughts (m : Nat) : Nat := (119 - m % 64) % 64
/-- The message's bits, without what is beyond 64 bits, as two words. -/
def hiB (m : Nat) : BitVec 32 := BitVec.ofNat 32 (m * 8 / 4294967296)
def loB (m : Nat) : BitVec 32 := BitVec.ofNat 32 (m * 8)
/-- What is put behind a message of m bytes. -/
def padL (m : Nat) : List UInt8 := ((128 :: List.replicate (noughts m) 0) ++ bytesL (hiB m)) ++ bytesL (loB m)
theorem length_padL (m : Nat) : (padL m).length = noughts m + 9 := by
  unfold padL bytesL; simp
theorem noughts_lt (m : Nat) : noughts m < 64 := Nat.mod_lt _ (by decide)
theorem u_hiB (m : Nat) : IntKind.u64.wrap ((m : Int) * 8) / 4294967296 % 4294967296 = u (hiB m) := by
  unfold u hiB
  rw [BitVec.toNat_ofNat, IntKind.wrap_u64]
  omega
theorem u_loB (m : Nat) : IntKind.u64.wrap ((m : Int) * 8) % 4294967296 = u (loB m) := by
  unfold u loB
  rw [BitVec.toNat_ofNat, IntKind.wrap_u64]
  omega
theorem pad_row {w : World} {g n : Nat} {ys : List Value} (h : Row w g 5 (List.replicate (n + 1) (.int .u8 0) ++ ys)) : Sl (w.setCell ⟨g, 0, none⟩ (.int .u8 128)) (some ⟨g, 0, none⟩) (n + 1) (byts (128 :: List.replicate n 0)) := by
  have h2 := h.set 0 (.int .u8 128)
  have e : (List.replicate (n + 1) (Value.int .u8 0) ++ ys).set 0 (.int .u8 128) = byts (128 :: List.replicate n 0) ++ ys := by
    rw [show byts (128 :: List.replicate n 0) = .int .u8 128 :: byts (List.replicate n 0) from rfl, byts_zeros]
    rfl
  rw [e] at h2
  exact ⟨Rd.row h2, by rw [length_byts]; simp, fun h => by cases h⟩
theorem pad_any (m : Nat) (w : World) :
    Calls Tryd.prog 34 #[.int .u64 m] w (GaveBytes (padL m) w) := by
  obtain ⟨i0, hi, hz0, hz1, hz2⟩ := info_parts infoByte
  have hs := noughts_lt m
  have hm : i0.bytes * (noughts m + 1) ≤ 281474976710656 := by rw [hz2]; omega
  have hm2 : noughts m + 1 ≤ maxLen := by unfold maxLen; omega
  have hn : IntKind.u64.wrap (1 + (IntKind.u64.wrap (-IntKind.u64.wrap (IntKind.u64.wrap ((m : Int) + 1) + 8))).tmod 64) = ((noughts m + 1 : Nat) : Int) := by
    simp only [IntKind.wrap_u64]
    rw [Int.tmod_eq_emod_of_nonneg (by omega)]
    unfold noughts; omega
  have HN := Lib.hid hn
  obtain ⟨l2, hL⟩ : ∃ l2, l2 = (128 :: List.replicate (noughts m) 0) ++ bytesL (hiB m) := ⟨_, rfl⟩
  have hL2 : l2.length ≤ 1000000 := by rw [hL]; simp [bytesL]; omega
  have HL := Lib.hid hL
  clear hL
  clear hn
  go_enter Tryd.func34, Tryd.ntmps34
  go_wp2_with (first
    | (at_make; refine wpList_make_full _ rfl _ _ 27 rfl w.heap.size 5 i0 _ 1 Tryd.underlying27 hi hz0 hz1 _ _ _ _ (noughts m + 1) rfl rfl HN.out HN.out hm hm2 (Nat.le_refl _) ?_; intro w1 hown1 hg1; have hbel1 : Below w.heap.size w w1 := (Below.refl _ _).grown hg1 (Nat.le_refl _) (fun _ h => by cases h); rw [made_list] at hown1; obtain ⟨ys, hr1⟩ := Row.of_own hown1; clear hown1 hg1; have c0 : w1.cell? ⟨w.heap.size, 0, none⟩ = some (.int .u8 0) := hr1.cell 0; have f0 := hr1.free 0)
    | (go_at_call 16; rw [u_hiB]; refine (put_at _ _ _ (128 :: List.replicate (noughts m) 0) _ _ (by simp) (pad_row hr1) (by simp; omega)).mono ?_; rintro e w2 ⟨v2, rfl, hown2, hbel2⟩; rw [← HL.out] at hown2; obtain ⟨A2, c2, rfl, hl2, hsl2⟩ := Sl.of_own hown2)
    | (go_at_call 16; rw [u_loB]; refine (put_at _ _ _ l2 _ _ rfl hsl2 hL2).mono ?_; rintro e w3 ⟨v3, rfl, hown3, hbel3⟩))
  go_ret
  have hb2 : Below w.heap.size w w2 := (hbel1.setCell (by show w.heap.size ≤ w.heap.size; exact Nat.le_refl _) _).trans (hbel2.mono (by rw [World.size_setCell]; exact hbel1.size))
  refine ⟨v3, rfl, ?_, hb2.trans (hbel3.mono hb2.size)⟩
  rw [HL.out] at hown3
  exact own_mono hown3 hb2.size
/-- The first k of the eight bytes in which the bits are counted. -/
def bitsK (m : Nat) : Nat → List UInt8
  | 0 => []
  | k + 1 => bitsK m k ++ [UInt8.ofNat (m * 8 % 18446744073709551616 / 2 ^ (8 * (7 - k)))]
theorem length_bitsK (m k : Nat) : (bitsK m k).length = k := by
  induction k with
  | zero => rfl
  | succ k ih => simp [bitsK, ih]
theorem ofNat_mod (a b : Nat) (h : a % 256 = b % 256) : UInt8.ofNat a = UInt8.ofNat b := by
  apply UInt8.toNat_inj.1
  rw [UInt8.toNat_ofNat', UInt8.toNat_ofNat']; omega
theorem bitsK_all (m : Nat) : bitsK m 8 = bytesL (hiB m) ++ bytesL (loB m) := by
  simp only [bitsK, bytesL, hiB, loB, BitVec.toNat_ofNat, List.nil_append, List.cons_append]
  simp only [List.cons.injEq, and_true]
  refine ⟨?_, ?_, ?_, ?_, ?_, ?_, ?_, ?_⟩ <;> (apply ofNat_mod; omega)
theorem byteK (m k : Nat) : byts [UInt8.ofNat (m * 8 % 18446744073709551616 / 2 ^ (8 * (7 - k)))] = [Value.int IntKind.u8 ((IntKind.u64.wrap ((m : Int) * 8) / 2 ^ (8 * (7 - k))).tmod 256 % 256)] := by
  show [Value.int .u8 _] = _
  rw [byte_of, IntKind.wrap_u64]
  have e : ((m * 8 % 18446744073709551616 / 2 ^ (8 * (7 - k)) : Nat) : Int) = (m : Int) * 8 % 18446744073709551616 / 2 ^ (8 * (7 - k)) := by
    rw [Int.natCast_ediv, Int.natCast_emod, Int.natCast_mul, Int.natCast_pow]; rfl
  rw [← e, Int.tmod_eq_emod_of_nonneg (Int.natCast_nonneg _)]
  congr 2
  omega
def padK (m k : Nat) : List UInt8 := (128 :: List.replicate (noughts m) 0) ++ bitsK m k
theorem padK_zero (m : Nat) : byts (padK m 0) = .int .u8 128 :: List.replicate (noughts m) (.int .u8 0) := by
  unfold padK bitsK
  rw [List.append_nil]
  show Value.int .u8 128 :: byts (List.replicate (noughts m) 0) = _
  rw [byts_zeros]
theorem padK_succ (m k : Nat) : padK m (k + 1) = padK m k ++ [UInt8.ofNat (m * 8 % 18446744073709551616 / 2 ^ (8 * (7 - k)))] := by
  unfold padK; rw [bitsK, List.append_assoc]
theorem padK_all (m : Nat) : padK m 8 = padL m := by
  unfold padK padL; rw [bitsK_all, List.append_assoc]
theorem length_padK (m k : Nat) : (padK m k).length = 1 + noughts m + k := by
  unfold padK; rw [List.length_append, length_bitsK]; simp; omega
theorem rpad_any (m : Nat) (w : World) :
    Calls Tryd.prog 27 #[.int .u64 m] w (GaveBytes (padL m) w) := by
  obtain ⟨i0, hi, hz0, hz1, hz2⟩ := info_parts infoByte
  have hs := noughts_lt m
  have hm2 : 1 + noughts m ≤ maxLen := by unfold maxLen; omega
  have hm3 : (1 + noughts m) * 1 ≤ 140737488355328 := by omega
  have hn : (55 - (m : Int) % 64 + 64) % 64 = (noughts m : Int) := by unfold noughts; omega
  have HN := Lib.hid hn
  clear hn
  have hown0 : (w.alloc (.cells #[.int .u8 128] 5)).ownsRow w.heap.size 5 1 (.slice (some ⟨w.heap.size, 0, none⟩) 1 1) 1 [.int .u8 128] := World.ownsRow_lit w #[.int .u8 128] 1 (Nat.le_refl _) (by unfold maxLen; omega) rfl
  go_enter Tryd.func27, Tryd.ntmps27
  go_wp2_with (at_builtin; go_loud (refine wpList_append_own_zeros rfl (.tmp 13) (.tmp 14) 27 3 rfl w.heap.size 5 i0 .u8 .i64 _ 1 Tryd.underlying27 Tryd.underlying3 hi hz0 hz1 hz2 w.heap.size 1 1 (noughts m) _ [.int .u8 128] rfl hown0 rfl HN.out hm2 hm3 (by rw [World.size_alloc]; omega) ?_; intro v2 w2 hown2 hg2))
  have hb2 : Below w.heap.size w w2 := ((Below.refl _ _).alloc (Nat.le_refl _) _).grown hg2 (by rw [World.size_alloc]; omega) (fun k h => by injection h with h; omega)
  rw [show ([Value.int .u8 128] ++ List.replicate (noughts m) (Value.int .u8 0)) = byts (padK m 0) from by rw [padK_zero]; rfl, show 1 + noughts m = (padK m 0).length from (length_padK m 0).symm] at hown2
  go_loopw [4, 6] (fun v i wr => ∃ k : Nat, k ≤ 8 ∧ i = .int .i64 (7 - (k : Int)) ∧ wr.ownsRow w.heap.size 5 1 v (padK m k).length (byts (padK m k)) ∧ Below w.heap.size w wr) (fun _ i _ => (intOf i + 1).toNat)
  case atStart => exact ⟨0, by omega, rfl, hown2, hb2⟩
  case round =>
    obtain ⟨k, hk, rfl, hown, hbel⟩ := hrel
    by_cases hlt : k < 8
    · have hby := Lib.hid (byteK m k)
      have hl := length_padK m k
      have hd1 : (padK m k).length + 1 ≤ maxLen := by unfold maxLen; omega
      have hd2 : ((padK m k).length + 1) * 1 ≤ 140737488355328 := by omega
      have hbs := hbel.size
      have hbe := hbel.alloc hbs (.cells #[Value.int IntKind.u8 ((IntKind.u64.wrap ((m : Int) * 8) / 2 ^ (8 * (7 - k))).tmod 256 % 256)] 5)
      have howna := hown.alloc (.cells #[Value.int IntKind.u8 ((IntKind.u64.wrap ((m : Int) * 8) / 2 ^ (8 * (7 - k))).tmod 256 % 256)] 5)
      have hlt' := fun j hj => (hown.lt j hj).1
      clear hbel hown hl
      go_wp2_with (at_builtin; refine wpList_append_own _ rfl (.tmp 22) (.tmp 30) 27 rfl w.heap.size 5 i0 _ 1 1 Tryd.underlying27 hi hz0 hz1 hz2 rfl (by omega) _ (padK m k).length (byts (padK m k)) rfl howna ⟨wr.heap.size, 0, none⟩ 1 1 (byts [UInt8.ofNat (m * 8 % 18446744073709551616 / 2 ^ (8 * (7 - k)))]) rfl (length_byts _) (by rw [hby.out]; exact cells_new _ _ _) (byts_one _) hd1 hd2 (by rw [World.size_alloc]; omega) ?_; intro v3 w3 hown3 hg3 _; have hb3 : Below w.heap.size w w3 := hbe.grown hg3 (by rw [World.size_alloc]; omega) hlt')
      go_roundw
      case rel =>
        refine ⟨k + 1, by omega, by go_num, ?_, hb3⟩
        rw [padK_succ, byts_append, List.length_append]; exact hown3
      case measure => simp [intOf]; omega
    · obtain rfl : k = 8 := by omega
      rw [padK_all] at hown
      have hneg : ¬ (0 ≤ 7 - ((8 : Nat) : Int)) := by omega
      go_wp2
      go_ret
      exact ⟨_, rfl, hown, hbel⟩
theorem pad3 : padL 3 = 128 :: (List.replicate 59 0 ++ [24]) := by decide +kernel
end Go.Proofs.YtefbopgbikmohaaDoor
