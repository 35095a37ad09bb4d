/- LAYER 12: package addr: Check, numbersOf, noughts. -/
import Derived.Test.YtflebnbpoboljaaDoorAd0
import Derived.Test.YtflebnbpoboljaaDoorEq
import Derived.Lib.SliceRun
namespace Go.Proofs.YtflebnbpoboljaaDoor
set_option maxRecDepth 100000
open Go Go.RowKit

theorem twelve_of (l : List UInt8) (h : l.length = 12) : ∃ a b c d e f g i j k m n : UInt8, l = [a, b, c, d, e, f, g, i, j, k, m, n] := by
  match l, h with
  | [a, b, c, d, e, f, g, i, j, k, m, n], _ => exact ⟨a, b, c, d, e, f, g, i, j, k, m, n, rfl⟩
theorem zero_u8 (w : World) : (zeroValue 5).run Tryd.prog w = .ok (.int .u8 0) w := by kernel_rfl
theorem row_clear4 {w w2 : World} {g t : Nat} {x : Value} {b0 b1 b2 b3 : UInt8} {r : List UInt8} (h : Row w g t (x :: byts (b0 :: b1 :: b2 :: b3 :: r))) (hw : w.setCells g 1 (List.replicate 4 (.int .u8 0)) = w2) :
    Row w2 g t (x :: byts (0 :: 0 :: 0 :: 0 :: r)) ∧ w.grownBy w2 (some g) := by
  subst hw
  have h4 := (((h.set 1 (.int .u8 0)).set 2 (.int .u8 0)).set 3 (.int .u8 0)).set 4 (.int .u8 0)
  exact ⟨h4, (((grown_setCell _ _ _ _).trans (grown_setCell _ _ _ _)).trans (grown_setCell _ _ _ _)).trans (grown_setCell _ _ _ _)⟩
theorem check_eq (v6 : Bool) (b0 b1 b2 b3 : UInt8) (r : List UInt8) (h : r.length = 12) : checkA ⟨v6, b0 :: b1 :: b2 :: b3 :: r⟩ = (v6 || decide ((0 :: 0 :: 0 :: 0 :: r : List UInt8) = List.replicate 16 0)) := by
  unfold checkA
  congr 1
  show r.all (· == 0) = _
  rw [Bool.eq_iff_iff, List.all_eq_true, decide_eq_true_iff]
  constructor
  · intro hz
    have : r = List.replicate 12 0 := List.eq_replicate_iff.2 ⟨h, fun x hx => by simpa using hz x hx⟩
    rw [this]; rfl
  · intro e x hx
    have : r = List.replicate 12 0 := by injection e with _ e; injection e with _ e; injection e with _ e; injection e with _ e
    rw [this] at hx
    rw [List.eq_of_mem_replicate hx]; rfl
set_option maxHeartbeats 2000000 in
theorem acheck_any (a : Adr) (h : a.Ok) (w : World) :
    Calls Tryd.prog 23 #[.agg (adrV a).toArray] w fun e w' => e = .returned (.bool (checkA a)) ∧ Below w.heap.size w w' := by
  obtain ⟨v6, b⟩ := a
  match b, h with
  | b0 :: b1 :: b2 :: b3 :: r, h =>
  have hr12 : r.length = 12 := by simpa [Adr.Ok] using h
  have HC := Lib.hid (show checkA ⟨v6, b0 :: b1 :: b2 :: b3 :: r⟩ = (v6 || decide ((0 :: 0 :: 0 :: 0 :: r : List UInt8) = List.replicate 16 0)) from check_eq v6 b0 b1 b2 b3 r hr12)
  obtain ⟨w1, hw1⟩ : ∃ w1, w1 = w.alloc (.cells (adrV ⟨v6, b0 :: b1 :: b2 :: b3 :: r⟩).toArray 24) := ⟨_, rfl⟩
  have hr : Row w1 w.heap.size 24 (.bool v6 :: byts (b0 :: b1 :: b2 :: b3 :: r)) := by rw [hw1]; exact Row.new w _ _
  have hb : Below w.heap.size w w1 := by rw [hw1]; exact (Below.refl _ w).alloc (Nat.le_refl _) _
  have hcl := Lib.hid (show ∀ ty, (Builtin.clear_ #[59] ty #[.slice (some ⟨w.heap.size, 1, none⟩) 4 16]).run Tryd.prog w1 = .ok (.tuple #[]) (w1.setCells w.heap.size 1 (List.replicate 4 (.int .u8 0))) from
    fun ty => Lib.run_clear_slice w1 59 5 ty (.int .u8 0) Tryd.underlying59 zero_u8 rfl rfl w.heap.size 1 4 16 (by omega) (by intro j hj; rw [hr.cell]; match j, hj with | 0, _ => rfl | 1, _ => rfl | 2, _ => rfl | 3, _ => rfl) (fun j _ => hr.free _))
  obtain ⟨V, hV⟩ : ∃ V, V = adrV ⟨v6, b0 :: b1 :: b2 :: b3 :: r⟩ := ⟨_, rfl⟩
  rw [← hV] at hw1 ⊢
  clear hV
  obtain ⟨i0, hi, _⟩ := info_parts infoByte
  have heq := Lib.hid (fun w' => run_eq_bytes 22 16 i0 Tryd.underlying22 hi (0 :: 0 :: 0 :: 0 :: r) (List.replicate 16 0) (by simp [hr12]) rfl w')
  go_enter Tryd.func23, Tryd.ntmps23
  subst hw1
  go_wp2_with (simp only [hcl.out]; refine Hid.out ?_)
  refine Lib.hid ?_
  generalize hw2 : World.setCells _ _ _ _ = w2
  obtain ⟨r2, hg2⟩ := row_clear4 hr hw2
  have hb2 := hb.grown hg2 hb.size (fun k h => by cases h; exact Nat.le_refl _)
  have h0 : w2.cell? ⟨w.heap.size, 0, none⟩ = some (.bool v6) := by rw [r2.cell]; rfl
  clear hw2 hcl hr hb hg2
  cases v6 with
  | true =>
    go_wp2
    go_ret
    exact ⟨by rw [HC.out]; rfl, hb2⟩
  | false =>
    obtain ⟨c4, c5, c6, c7, c8, c9, c10, c11, c12, c13, c14, c15, rfl⟩ := twelve_of r hr12
    have hc1 : w2.cell? ⟨w.heap.size, 1, none⟩ = some (.int .u8 0) := by rw [r2.cell]; rfl
    have hc2 : w2.cell? ⟨w.heap.size, 2, none⟩ = some (.int .u8 0) := by rw [r2.cell]; rfl
    have hc3 : w2.cell? ⟨w.heap.size, 3, none⟩ = some (.int .u8 0) := by rw [r2.cell]; rfl
    have hc4 : w2.cell? ⟨w.heap.size, 4, none⟩ = some (.int .u8 0) := by rw [r2.cell]; rfl
    have hc5 : w2.cell? ⟨w.heap.size, 5, none⟩ = some (.int .u8 (c4.toNat : Int)) := by rw [r2.cell]; rfl
    have hc6 : w2.cell? ⟨w.heap.size, 6, none⟩ = some (.int .u8 (c5.toNat : Int)) := by rw [r2.cell]; rfl
    have hc7 : w2.cell? ⟨w.heap.size, 7, none⟩ = some (.int .u8 (c6.toNat : Int)) := by rw [r2.cell]; rfl
    have hc8 : w2.cell? ⟨w.heap.size, 8, none⟩ = some (.int .u8 (c7.toNat : Int)) := by rw [r2.cell]; rfl
    have hc9 : w2.cell? ⟨w.heap.size, 9, none⟩ = some (.int .u8 (c8.toNat : Int)) := by rw [r2.cell]; rfl
    have hc10 : w2.cell? ⟨w.heap.size, 10, none⟩ = some (.int .u8 (c9.toNat : Int)) := by rw [r2.cell]; rfl
    have hc11 : w2.cell? ⟨w.heap.size, 11, none⟩ = some (.int .u8 (c10.toNat : Int)) := by rw [r2.cell]; rfl
    have hc12 : w2.cell? ⟨w.heap.size, 12, none⟩ = some (.int .u8 (c11.toNat : Int)) := by rw [r2.cell]; rfl
    have hc13 : w2.cell? ⟨w.heap.size, 13, none⟩ = some (.int .u8 (c12.toNat : Int)) := by rw [r2.cell]; rfl
    have hc14 : w2.cell? ⟨w.heap.size, 14, none⟩ = some (.int .u8 (c13.toNat : Int)) := by rw [r2.cell]; rfl
    have hc15 : w2.cell? ⟨w.heap.size, 15, none⟩ = some (.int .u8 (c14.toNat : Int)) := by rw [r2.cell]; rfl
    have hc16 : w2.cell? ⟨w.heap.size, 16, none⟩ = some (.int .u8 (c15.toNat : Int)) := by rw [r2.cell]; rfl
    have heq2 : ∀ w', (Op.equalIn 10000 22 (.agg #[.int .u8 0, .int .u8 0, .int .u8 0, .int .u8 0, .int .u8 (c4.toNat : Int), .int .u8 (c5.toNat : Int), .int .u8 (c6.toNat : Int), .int .u8 (c7.toNat : Int), .int .u8 (c8.toNat : Int), .int .u8 (c9.toNat : Int), .int .u8 (c10.toNat : Int), .int .u8 (c11.toNat : Int), .int .u8 (c12.toNat : Int), .int .u8 (c13.toNat : Int), .int .u8 (c14.toNat : Int), .int .u8 (c15.toNat : Int)]) (.agg #[.int .u8 0, .int .u8 0, .int .u8 0, .int .u8 0, .int .u8 0, .int .u8 0, .int .u8 0, .int .u8 0, .int .u8 0, .int .u8 0, .int .u8 0, .int .u8 0, .int .u8 0, .int .u8 0, .int .u8 0, .int .u8 0])).run Tryd.prog w' = .ok (decide ((0 :: 0 :: 0 :: 0 :: [c4, c5, c6, c7, c8, c9, c10, c11, c12, c13, c14, c15] : List UInt8) = List.replicate 16 0)) w' := heq.out
    clear r2 heq
    generalize decide ((0 :: 0 :: 0 :: 0 :: [c4, c5, c6, c7, c8, c9, c10, c11, c12, c13, c14, c15] : List UInt8) = List.replicate 16 0) = D at *
    go_wp2
    go_ret
    exact ⟨by rw [HC.out]; rfl, hb2⟩
/-- What noughts computes, from left to right. -/
def nGo : Nat → Nat → Nat → Nat → List Bool → Nat × Nat
  | _, p, m, _, [] => (p, m)
  | i, p, m, r, z :: zs => if z then (if m < r + 1 then nGo (i + 1) (i - r) (r + 1) (r + 1) zs else nGo (i + 1) p m (r + 1) zs) else nGo (i + 1) p m 0 zs
def zB : List Bool → Nat
  | [] => 0
  | z :: zs => if z then zB zs + 1 else 0
def bestB (l : List Bool) : Nat := (List.range l.length).foldl (fun best i => if zB (l.drop i) > zB (l.drop best) then i else best) 0
theorem zB_eq (l : List Nat) : zB (l.map fun n => decide (n = 0)) = zerosL l := by
  induction l with
  | nil => rfl
  | cons n l ih => rw [List.map_cons, zB, zerosL, ih]; by_cases h : n = 0 <;> simp [h]
theorem bestB_eq (l : List Nat) : bestB (l.map fun n => decide (n = 0)) = bestL l := by
  unfold bestB bestL
  simp only [← List.map_drop, zB_eq, List.length_map]
theorem nGo_all : ∀ a b c d e f g h : Bool, nGo 0 0 0 0 [a, b, c, d, e, f, g, h] = (bestB [a, b, c, d, e, f, g, h], zB ([a, b, c, d, e, f, g, h].drop (bestB [a, b, c, d, e, f, g, h]))) := by decide
theorem nGo_eq (l : List Nat) (h8 : l.length = 8) : nGo 0 0 0 0 (l.map fun n => decide (n = 0)) = (bestL l, zerosL (l.drop (bestL l))) := by
  rw [← bestB_eq, ← zB_eq, List.map_drop]
  obtain ⟨a, b, c, d, e, f, g, h, rfl⟩ := eight_of l h8
  exact nGo_all _ _ _ _ _ _ _ _
theorem nGo_at (l : List Nat) (k : Nat) (hk : k < l.length) (p m r : Nat) : nGo k p m r ((l.drop k).map fun n => decide (n = 0)) =
    if l.getD k 0 = 0 then (if m < r + 1 then nGo (k + 1) (k - r) (r + 1) (r + 1) ((l.drop (k + 1)).map fun n => decide (n = 0)) else nGo (k + 1) p m (r + 1) ((l.drop (k + 1)).map fun n => decide (n = 0))) else nGo (k + 1) p m 0 ((l.drop (k + 1)).map fun n => decide (n = 0)) := by
  rw [List.drop_eq_getElem_cons hk, List.map_cons, nGo, List.getD_eq_getElem?_getD, List.getElem?_eq_getElem hk]
  simp
set_option maxHeartbeats 2000000 in
theorem anoughts_any (l : List Nat) (h8 : l.length = 8) (w : World) :
    Calls Tryd.prog 58 #[.agg (hwV l).toArray] w fun e w' => e = .returned (.tuple #[.int .i64 (bestL l : Nat), .int .i64 (zerosL (l.drop (bestL l)) : Nat)]) ∧ Below w.heap.size w w' := by
  have hsl := Lib.hid (show (Tryd.prog.info? 62).map (·.size) = some (hwV l).toArray.size by rw [show (Tryd.prog.info? 62).map (·.size) = some 8 by kernel_rfl, List.size_toArray, length_hwV, h8])
  have HI := Lib.hid (fun k hk w' => idx_agg l h8 k hk w')
  have HE := Lib.hid (nGo_eq l h8)
  obtain ⟨w1, hw1⟩ : ∃ w1, w1 = w.alloc (.cells (hwV l).toArray 62) := ⟨_, rfl⟩
  have hr := Lib.hid (show w1.heap[w.heap.size]? = some (.cells (hwV l).toArray 62 (0, 0)) by rw [hw1]; exact Row.new w _ _)
  have hb : Below w.heap.size w w1 := by rw [hw1]; exact (Below.refl _ w).alloc (Nat.le_refl _) _
  obtain ⟨L, hL⟩ : ∃ L, L = hwV l := ⟨_, rfl⟩
  rw [← hL] at hsl hw1 hr HI ⊢
  clear hL
  go_enter Tryd.func58, Tryd.ntmps58
  subst hw1
  go_wp2_with (with_reducible refine wpList_load_row rfl 62 (.tmp 1) rfl w.heap.size rfl 62 L.toArray (0, 0) _ hr.out Tryd.underlying62 rfl hsl.out ?_)
  go_loop [2, 3, 4, 8] (fun v2 v3 v4 v8 => ∃ k p m r : Nat, k ≤ 8 ∧ r ≤ k ∧ v2 = .int .i64 p ∧ v3 = .int .i64 m ∧ v4 = .int .i64 r ∧ v8 = .int .i64 k ∧ nGo k p m r ((l.drop k).map fun n => decide (n = 0)) = nGo 0 0 0 0 (l.map fun n => decide (n = 0))) (fun _ _ _ v8 => 8 - (intOf v8).toNat)
  case atStart => exact ⟨0, 0, 0, 0, by omega, by omega, rfl, rfl, rfl, rfl, rfl⟩
  case round =>
    obtain ⟨k, p, m, r, hk, hrk, rfl, rfl, rfl, rfl, hgo⟩ := hrel
    by_cases hlt : k < 8
    · have hlt' : (k : Int) < 8 := by omega
      have hix := HI.out k hlt
      rw [nGo_at l k (by omega)] at hgo
      have hI0 : IntKind.i64.wrap ((r : Int) + 1) = (r : Int) + 1 := by rw [IntKind.wrap_i64]; omega
      have hI1 : IntKind.i64.wrap ((k : Int) + 1) = (k : Int) + 1 := by rw [IntKind.wrap_i64]; omega
      have hI2 : IntKind.i64.wrap ((k : Int) + 1 - ((r : Int) + 1)) = ((k - r : Nat) : Int) := by rw [IntKind.wrap_i64]; omega
      by_cases h0 : l.getD k 0 = 0
      · rw [if_pos h0] at hgo
        rw [h0] at hix
        clear h0
        by_cases hm : m < r + 1
        · rw [if_pos hm] at hgo
          have hm' : (m : Int) < (r : Int) + 1 := by omega
          have HG := Lib.hid hgo
          clear hgo
          go_wp2
          go_round
          case rel => exact ⟨k + 1, k - r, r + 1, r + 1, by omega, by omega, rfl, by go_num, by go_num, by go_num, HG.out⟩
          case measure => simp [intOf]; omega
        · rw [if_neg hm] at hgo
          have hm' : (r : Int) + 1 ≤ (m : Int) := by omega
          have HG := Lib.hid hgo
          clear hgo
          go_wp2
          go_round
          case rel => exact ⟨k + 1, p, m, r + 1, by omega, by omega, rfl, rfl, by go_num, by go_num, HG.out⟩
          case measure => simp [intOf]; omega
      · rw [if_neg h0] at hgo
        have h0' : ((l.getD k 0 : Nat) : Int) ≠ 0 := by omega
        have HG := Lib.hid hgo
        generalize l.getD k 0 = x at *
        clear hgo h0
        go_wp2
        go_round
        case rel => exact ⟨k + 1, p, m, 0, by omega, by omega, rfl, rfl, rfl, by go_num, HG.out⟩
        case measure => simp [intOf]; omega
    · obtain rfl : k = 8 := by omega
      have HG := Lib.hid (show (p, m) = (bestL l, zerosL (l.drop (bestL l))) by rw [← HE.out, ← hgo, List.drop_of_length_le (by omega)]; rfl)
      clear hgo
      go_wp2
      go_ret2
      exact ⟨by have := HG.out; injection this with h1 h2; rw [← h2, ← h1]; rfl, hb⟩
end Go.Proofs.YtflebnbpoboljaaDoor
