/- LAYER 1's DOCUMENT (chittyref01): the product of two numbers as digits, walked. -/
import Derived.Test.YtefbopgbikmohaaDoorD1
namespace Go.Proofs.YtefbopgbikmohaaDoor
open Go.RowKit
theorem infoInt : (Tryd.prog.info? 3).map (fun i => (i.zero, i.size, i.bytes)) = some (some (.int .i64 0), 1, 8) := by kernel_rfl
theorem row_made {w : World} {g n : Nat} (h : w.ownsRow g 3 1 (.slice (some ⟨g, 0, none⟩) n n) n (madeCells (Value.int .i64 0).cells (n * 1)).toList) : Row w g 3 (ints (List.replicate n 0)) := by
  rcases h.2 with ⟨h1, _⟩ | ⟨g', cap', cur, hv, _, hg, _, _, hs, htake⟩
  · cases h1
  · injection hv with h1 h2 h3
    injection h1 with h1
    injection h1 with h1
    subst h1
    subst h3
    unfold Row ints
    rw [hg, List.map_replicate]
    have e : cur.toList = List.replicate n (Value.int .i64 0) := by
      rw [show cur.toList = cur.toList.take (n * 1) from by rw [List.take_of_length_le (by simp [hs])], htake]
      show (madeCells #[Value.int .i64 0] (n * 1)).toList = _
      rw [toList_madeCells_one, Nat.mul_one]
    rw [← e]
def mul1 (out : List Int) (p : Nat) (x y : Int) : List Int :=
  (out.set p (wrap64 (out.getD p 0 + (wrap64 (x * y)).tmod 65536))).set (p + 1) (wrap64 (out.getD (p + 1) 0 + wrap64 ((wrap64 (x * y)).tdiv 65536)))
def rowL (x : Int) (b out : List Int) (i : Nat) : Nat → List Int
  | 0 => out
  | k + 1 => mul1 (rowL x b out i k) (i + k) x (b.getD k 0)
def outL (a b : List Int) : Nat → List Int
  | 0 => List.replicate (a.length + b.length) 0
  | i + 1 => rowL (a.getD i 0) b (outL a b i) i b.length
theorem len_mul1 (out : List Int) (p : Nat) (x y : Int) : (mul1 out p x y).length = out.length := by unfold mul1; simp
theorem len_rowL (x : Int) (b out : List Int) (i k : Nat) : (rowL x b out i k).length = out.length := by
  induction k with
  | zero => rfl
  | succ k ih => rw [rowL, len_mul1, ih]
theorem len_outL (a b : List Int) (i : Nat) : (outL a b i).length = a.length + b.length := by
  induction i with
  | zero => simp [outL]
  | succ i ih => rw [outL, len_rowL, ih]
def car1 (out : List Int) (i : Nat) : List Int :=
  if i + 1 < out.length then (out.set (i + 1) (wrap64 (out.getD (i + 1) 0 + wrap64 ((out.getD i 0).tdiv 65536)))).set i ((out.getD i 0).tmod 65536) else out
def carL (out : List Int) : Nat → List Int
  | 0 => out
  | i + 1 => car1 (carL out i) i
theorem len_carL (out : List Int) (i : Nat) : (carL out i).length = out.length := by
  induction i with
  | zero => rfl
  | succ i ih => rw [carL, car1]; split <;> simp [ih]
def timesL (a b : List Int) : List Int := carL (outL a b a.length) (a.length + b.length)
end Go.Proofs.YtefbopgbikmohaaDoor
