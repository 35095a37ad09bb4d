/- LAYER 8: the document's Bytes. -/
import Derived.Test.YthiebbhooigogaaVl
import Derived.Test.YthiebbhooigogaaBg
import Derived.Test.YthiebbhooigogaaB1
namespace Go.Proofs.Ythiebbhooigogaa
open Go Go.RowKit

theorem one_max : 1 ≤ maxLen := by unfold maxLen; omega
theorem toNat_ofNat8 (n : Nat) (h : n < 256) : ((UInt8.ofNat n).toNat : Int) = (n : Int) := by rw [UInt8.toNat_ofNat']; omega
set_option maxHeartbeats 1000000 in
theorem rbytes8_small (n : Nat) (h : n < 128) (k : Nat) (w : World) : Calls Try.prog 57 #[.int .u64 n] w (GaveBytes (varF k n) w) := by
  have hw : IntKind.u8.wrap (n : Int) = (n : Int) := by rw [IntKind.wrap_u8]; omega
  have hlt : (n : Int) < 128 := by omega
  have HV := Lib.hid (varF_small k n h)
  have HB := Lib.hid (show (#[Value.int .u8 (n : Int)] : Array Value) = (byts [UInt8.ofNat n]).toArray by
    show _ = #[Value.int .u8 ((UInt8.ofNat n).toNat : Int)]
    rw [toNat_ofNat8 n (by omega)])
  clear h
  go_enter Try.func57, Try.ntmps57
  go_wp2
  go_ret
  rw [HV.out, HB.out]
  exact ⟨_, rfl, own_of_row (Row.new w 5 (byts [UInt8.ofNat n])) (Nat.le_refl _) (by rw [length_byts]; exact one_max), (Below.refl _ w).alloc (Nat.le_refl _) _⟩
set_option maxHeartbeats 1000000 in
theorem rbytes8_fuel (k : Nat) : ∀ n : Nat, k ≤ 9 → n < 128 ^ (k + 1) → n < 18446744073709551616 → ∀ w : World, Calls Try.prog 57 #[.int .u64 n] w (GaveBytes (varF k n) w) := by
  induction k with
  | zero => exact fun n _ h _ w => rbytes8_small n (by simpa using h) 0 w
  | succ k IH =>
    intro n hk9 h h64 w
    by_cases h0 : n < 128
    · exact rbytes8_small n h0 (k + 1) w
    obtain ⟨i0, hi, hz0, hz1, hz2⟩ := info_parts infoByte
    obtain ⟨x, hx⟩ : ∃ x, x = n % 128 := ⟨_, rfl⟩
    obtain ⟨q, hq⟩ : ∃ q, q = n / 128 := ⟨_, rfl⟩
    have hrem : (n : Int) % 128 = (x : Int) := by rw [hx]; omega
    have hquo : (n : Int) / 128 = (q : Int) := by rw [hq]; omega
    have hw1 : IntKind.u8.wrap (x : Int) = (x : Int) := by rw [IntKind.wrap_u8]; omega
    have hw2 : IntKind.u8.wrap ((x : Int) + 128) = (x : Int) + 128 := by rw [IntKind.wrap_u8]; omega
    have hwq : IntKind.u64.wrap (q : Int) = (q : Int) := by rw [IntKind.wrap_u64]; omega
    have hge : ¬ (n : Int) < 128 := by omega
    have hlow : (128 : Int) ≤ (n : Int) := by omega
    have ih := Lib.hid (show ∀ w1, Calls Try.prog 57 #[.int .u64 q] w1 (GaveBytes (varF k q) w1) from fun w1 => IH q (by omega) (by rw [hq, Nat.div_lt_iff_lt_mul (by omega)]; rw [Nat.pow_succ] at h; exact h) (by omega) w1)
    have HV := Lib.hid (show varF (k + 1) n = UInt8.ofNat (x + 128) :: varF k q by rw [hx, hq]; exact varF_big k n h0)
    have HB := Lib.hid (show (#[Value.int .u8 ((x : Int) + 128)] : Array Value) = (byts [UInt8.ofNat (x + 128)]).toArray by
      show _ = #[Value.int .u8 ((UInt8.ofNat (x + 128)).toNat : Int)]
      rw [toNat_ofNat8 (x + 128) (by omega)]; rfl)
    have hl := length_varF k q
    have n1 : 1 + (varF k q).length ≤ maxLen := by unfold maxLen; omega
    have n2 : (1 + (varF k q).length) * 1 ≤ 140737488355328 := by omega
    generalize varF k q = L at *
    have HL := Lib.hid (show L.length = (byts L).length from (length_byts L).symm)
    clear IH h h64 hx hq h0 hl hk9
    go_enter Try.func57, Try.ntmps57
    go_wp2_with (first
      | (go_at_call 57; refine (ih.out _).mono ?_; rintro e w2 ⟨v2, rfl, hown2, hb2⟩; obtain ⟨A2, c2, rfl, _, hsl2⟩ := Sl.of_own hown2; have hown1 : w2.ownsRow w.heap.size 5 1 (.slice (some ⟨w.heap.size, 0, none⟩) 1 1) 1 (byts [UInt8.ofNat (x + 128)]) := own_later (by rw [HB.out]; exact own_of_row (Row.new w 5 (byts [UInt8.ofNat (x + 128)])) (Nat.le_refl _) (by rw [length_byts]; exact one_max)) hb2 (Nat.le_refl _); have hbw2 : Below w.heap.size w w2 := ((Below.refl w.heap.size w).alloc (Nat.le_refl _) _).trans (hb2.mono (by rw [World.size_alloc]; omega)); clear hb2 hown2)
      | (at_builtin; refine wpList_append_sl rfl (.tmp 12) (.tmp 15) 31 rfl w.heap.size 5 i0 _ 1 Try.underlying31 hi hz0 hz1 hz2 rfl _ 1 (byts [UInt8.ofNat (x + 128)]) rfl hown1 A2 L.length c2 (byts L) rfl HL.out hsl2 (byts_one _) n1 n2 hbw2.size ?_; intro v4 w4 hown4 hg4; have hbw4 : Below w.heap.size w w4 := hbw2.grown hg4 hbw2.size (fun k hk => (hown1.lt k hk).1)))
    go_ret
    refine ⟨_, rfl, ?_, hbw4⟩
    rw [← byts_append] at hown4
    rw [HV.out, show (UInt8.ofNat (x + 128) :: L).length = 1 + L.length by rw [List.length_cons]; omega]
    exact hown4
theorem rbytes8_any (n : Nat) (h : n < 18446744073709551616) (w : World) : Calls Try.prog 57 #[.int .u64 n] w (GaveBytes (varL n) w) :=
  rbytes8_fuel 9 n (by omega) (by have : (128 : Nat) ^ (9 + 1) = 1180591620717411303424 := by decide
                                  omega) h w
end Go.Proofs.Ythiebbhooigogaa
