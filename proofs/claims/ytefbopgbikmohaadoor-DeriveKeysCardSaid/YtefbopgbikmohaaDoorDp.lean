/- LAYER 3: what walks over digests share: parts, slices cut out of slices, rows written whole. -/
import Derived.Test.YtefbopgbikmohaaDoorDo
import Derived.Test.YtefbopgbikmohaaDoorZ
namespace Go.Proofs.YtefbopgbikmohaaDoor
open Go Go.RowKit

theorem write_at (g n : Nat) (l b : List UInt8) (A : Option Addr) (c : Nat) (w : World) (hT : Cube w) (hd : Dgt w g l) (hs : Sl w A c (byts b)) (hA : 0 < b.length → ∀ a, A = some a → a.block ≠ g) (hn : n = b.length) (hm : l.length + b.length ≤ 4611686018427387904) :
    Calls Tryd.prog 24 #[.pointer (some ⟨g, 0, none⟩), .slice A n c] w fun e w' => e = .returned (.tuple #[]) ∧ Dgt w' g (l ++ b) ∧ w.grownBy w' (some g) := by
  subst hn
  exact write_any g l b A c w hT hd hs hA hm
theorem infoSlice : (Tryd.prog.info? 27).map (fun i => (i.zero, i.size, i.bytes)) = some (some (.slice none 0 0), 1, 24) := by kernel_rfl
/-- A part alone, in a list of its own. -/
theorem parts_one {w : World} {A : Option Addr} {c : Nat} {l : List UInt8} (h : Sl w A c (byts l)) : Parts (w.alloc (.cells #[.slice A l.length c] 27)) (some ⟨w.heap.size, 0, none⟩) 1 [(A, c, l)] := by
  have r := Row.new w 27 [.slice A l.length c]
  refine ⟨⟨Rd.row (ys := []) (by rw [List.append_nil]; exact r), by simp, fun h => by cases h⟩, fun p hp => ?_⟩
  obtain rfl : p = (A, c, l) := by simpa using hp
  exact h.later (Nat.le_refl _) ((Below.refl _ w).alloc (Nat.le_refl _) _)
theorem flat_one (A : Option Addr) (c : Nat) (l : List UInt8) : flat [(A, c, l)] = l := by unfold flat; simp
theorem flat_snoc (ps : List Part) (A : Option Addr) (c : Nat) (l : List UInt8) : flat (ps ++ [(A, c, l)]) = flat ps ++ l := by unfold flat; simp
theorem parts_all (ps : List Part) : ∀ v ∈ ps.map partV, v.oneCell' = true := by
  intro v hv
  obtain ⟨_, _, rfl⟩ := List.mem_map.1 hv
  rfl
theorem take_more (l : List UInt8) (i j : Nat) (h : i ≤ j) : l.take i ++ (l.drop i).take (j - i) = l.take j := by
  rw [← List.take_add, show i + (j - i) = j by omega]
theorem index_parts (A : Option Addr) (b o n c k : Nat) (hA : A = some ⟨b, o, none⟩) (hk : k < n) (w : World) :
    (Instr.indexAt 42 (.slice A n c) (.int .i64 k)).run Tryd.prog w = .ok (.pointer (some ⟨b, o + k, none⟩)) w := by
  subst hA
  have h : (k : Int) < (n : Int) := by omega
  go_simp
theorem sl_three (w : World) (C : Array Value) (hC : C = (byts [1, 2, 3]).toArray) : Sl (w.alloc (.cells C 5)) (some ⟨w.heap.size, 0, none⟩) 3 (byts [1, 2, 3]) := by
  subst hC
  exact ⟨Rd.row (ys := []) (by rw [List.append_nil]; exact Row.new w 5 (byts [1, 2, 3])), by simp [length_byts], fun h => by cases h⟩
end Go.Proofs.YtefbopgbikmohaaDoor
