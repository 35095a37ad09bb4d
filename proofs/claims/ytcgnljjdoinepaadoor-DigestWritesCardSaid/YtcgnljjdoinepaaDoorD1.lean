/- LAYER 1's DOCUMENT (chittyref01): roots by trying, over digits of 16 bits, walked. -/
import Derived.Test.YtcgnljjdoinepaaDoorN1
import Derived.Test.YtcgnljjdoinepaaDoorM
namespace Go.Proofs.YtcgnljjdoinepaaDoor
open Go.RowKit

def digitsL (x : Int) : List Int := [x % 65536, x / 65536 % 65536, x / 65536 / 65536]
theorem digits_any (x : Int) (w : World) (h0 : 0 ≤ x) (h1 : x ≤ 9223372036854775807) :
    Calls Tryd.prog 35 #[.int .i64 x] w (GaveInts (digitsL x) w) := by
  go_enter Tryd.func35, Tryd.ntmps35
  go_wp2
  go_ret
  refine ⟨w.heap.size, 3, [], rfl, Nat.le_refl _, ?_, ?_⟩
  · rw [List.append_nil]; exact Row.new w _ _
  · exact (Below.refl _ _).alloc (Nat.le_refl _) _

/-- Which of two numbers is above, from digit k down: k is one more than the digit. -/
def aboveL (a b : List Int) : Nat → Bool
  | 0 => false
  | k + 1 => if a.getD k 0 ≠ b.getD k 0 then decide (b.getD k 0 < a.getD k 0) else aboveL a b k
theorem aboveL_succ (a b : List Int) (k : Nat) : aboveL a b (k + 1) = if a.getD k 0 ≠ b.getD k 0 then decide (b.getD k 0 < a.getD k 0) else aboveL a b k := rfl
set_option maxHeartbeats 1000000 in
theorem above_any (A B : Option Addr) (ca cb : Nat) (a b : List Int) (w : World) (ha : Rd w A (ints a)) (hb : Rd w B (ints b)) (hla : a.length ≤ 1000) (hlb : b.length ≤ 1000) :
    Calls Tryd.prog 37 #[.slice A a.length ca, .slice B b.length cb] w fun e w' => e = .returned (.bool (aboveL a b (a.length + b.length + 1))) ∧ w = w' := by
  go_enter Tryd.func37, Tryd.ntmps37
  go_wp2
  go_loop [5] (fun i => ∃ k : Nat, k ≤ a.length + b.length + 1 ∧ i = .int .i64 ((k : Int) - 1) ∧ aboveL a b (a.length + b.length + 1) = aboveL a b k) (fun i => (intOf i + 1).toNat)
  case atStart => exact ⟨a.length + b.length + 1, by omega, by go_num, rfl⟩
  case round =>
    obtain ⟨k, hk, rfl, hq⟩ := hrel
    have HQ := Lib.hid hq
    clear hq
    match k, hk, HQ with
    | 0, _, HQ =>
      simp only [Int.natCast_zero, Int.zero_sub]
      go_wp2
      go_ret
      rw [HQ.out]
      exact ⟨rfl, rfl⟩
    | m + 1, hk, HQ =>
      rw [show (((m + 1 : Nat) : Int) - 1) = (m : Int) by omega]
      have hx : a.length ≤ m → a.getD m 0 = 0 := fun h => by simp [h]
      have hy : b.length ≤ m → b.getD m 0 = 0 := fun h => by simp [h]
      have ca : m < a.length → (ints a)[m]? = some (.int .i64 (a.getD m 0)) := get_ints a m
      have cb : m < b.length → (ints b)[m]? = some (.int .i64 (b.getD m 0)) := get_ints b m
      have HQ' := HQ.out
      rw [aboveL_succ a b m] at HQ'
      generalize a.getD m 0 = x at *
      generalize b.getD m 0 = y at *
      clear HQ
      have HQ := Lib.hid HQ'
      clear HQ'
      have hxy : x = y ∨ (x < y ∧ (x != y) = true) ∨ (y < x ∧ (x != y) = true) := by
        rcases Int.lt_trichotomy x y with h | h | h
        · exact .inr (.inl ⟨h, by simp; omega⟩)
        · exact .inl h
        · exact .inr (.inr ⟨h, by simp; omega⟩)
      by_cases h1 : m < a.length <;> by_cases h2 : m < b.length
      · obtain ⟨ba, oa, rfl, _, hca⟩ := ha.get (i := m) (by rw [length_ints]; exact h1)
        obtain ⟨bb, ob, rfl, _, hcb⟩ := hb.get (i := m) (by rw [length_ints]; exact h2)
        rw [ca h1] at hca
        rw [cb h2] at hcb
        clear ca cb hx hy
        rcases hxy with rfl | ⟨h3, h4⟩ | ⟨h3, h4⟩
        · go_wp2
          go_round
          case rel => exact ⟨m, by omega, rfl, by rw [HQ.out, if_neg (by simp)]⟩
          case measure => simp [intOf]
        · go_wp2
          go_ret
          rw [HQ.out, if_pos (by omega), show decide (y < x) = false by simp; omega]
          exact ⟨rfl, rfl⟩
        · go_wp2
          go_ret
          rw [HQ.out, if_pos (by omega), show decide (y < x) = true by simp; omega]
          exact ⟨rfl, rfl⟩
      · obtain ⟨ba, oa, rfl, _, hca⟩ := ha.get (i := m) (by rw [length_ints]; exact h1)
        rw [ca h1] at hca
        obtain rfl := hy (by omega)
        clear ca cb hx hy
        rcases hxy with h0 | ⟨h3, h4⟩ | ⟨h3, h4⟩
        · subst h0
          go_wp2
          go_round
          case rel => exact ⟨m, by omega, rfl, by rw [HQ.out, if_neg (by simp)]⟩
          case measure => simp [intOf]
        · go_wp2
          go_ret
          rw [HQ.out, if_pos (by omega), show decide (0 < x) = false by simp; omega]
          exact ⟨rfl, rfl⟩
        · go_wp2
          go_ret
          rw [HQ.out, if_pos (by omega), show decide (0 < x) = true by simp; omega]
          exact ⟨rfl, rfl⟩
      · obtain ⟨bb, ob, rfl, _, hcb⟩ := hb.get (i := m) (by rw [length_ints]; exact h2)
        rw [cb h2] at hcb
        obtain rfl := hx (by omega)
        clear ca cb hx hy
        rcases hxy with h0 | ⟨h3, h4⟩ | ⟨h3, h4⟩
        · subst h0
          go_wp2
          go_round
          case rel => exact ⟨m, by omega, rfl, by rw [HQ.out, if_neg (by simp)]⟩
          case measure => simp [intOf]
        · go_wp2
          go_ret
          rw [HQ.out, if_pos (by omega), show decide (y < 0) = false by simp; omega]
          exact ⟨rfl, rfl⟩
        · go_wp2
          go_ret
          rw [HQ.out, if_pos (by omega), show decide (y < 0) = true by simp; omega]
          exact ⟨rfl, rfl⟩
      · obtain rfl := hx (by omega)
        obtain rfl := hy (by omega)
        clear ca cb hx hy hxy
        go_wp2
        go_round
        case rel => exact ⟨m, by omega, rfl, by rw [HQ.out, if_neg (by simp)]⟩
        case measure => simp [intOf]
end Go.Proofs.YtcgnljjdoinepaaDoor
