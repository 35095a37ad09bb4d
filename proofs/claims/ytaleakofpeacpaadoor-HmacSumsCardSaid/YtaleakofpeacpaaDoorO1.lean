/- AN ARGUMENT THAT IS A SLICE OF SLICES OF BYTES, opened. -/
import Derived.Test.YtaleakofpeacpaaDoorK
import Derived.Test.YtaleakofpeacpaaDoorDo
import Derived.Deep.Matrix
namespace Go.Proofs.YtaleakofpeacpaaDoor
open Go.ChangeShapes Go.WideShapes Go.ChangeAt Go.RowKit

def u8s (Z : List Int) : List UInt8 := Z.map fun z => UInt8.ofNat z.toNat
theorem length_u8s (Z : List Int) : (u8s Z).length = Z.length := by unfold u8s; simp
theorem sl_of_cells {W : World} {A : Option Addr} {L C : Nat} {Z : List Int} (hL : L ≤ C) (hZ : Z.length = C) (hw : ∀ n ∈ Z, (Lit.int .u8 n).wf = true) (hn : A = none → C = 0)
    (hc : ∀ a', A = some a' → ∀ c, c < C → W.cell? (a'.add c) = some (.int .u8 (Z.getD c 0))) : Sl W A C (byts (u8s (Z.take L))) := by
  have hlen : (u8s (Z.take L)).length = L := by rw [length_u8s, List.length_take]; omega
  have hb : ∀ i, i < Z.length → 0 ≤ Z.getD i 0 ∧ Z.getD i 0 ≤ 255 := by
    intro i hi
    refine bounds_u8 (hw _ ?_)
    rw [List.getD_eq_getElem?_getD, List.getElem?_eq_getElem hi]
    exact List.getElem_mem hi
  refine ⟨?_, by rw [length_byts, hlen]; exact hL, hn⟩
  by_cases h0 : L = 0
  · subst h0; exact .inl rfl
  · cases A with
    | none => exact absurd (hn rfl) (by omega)
    | some x =>
      obtain ⟨b, off, spot⟩ := x
      have hc0 := hc _ rfl 0 (by omega)
      have hspot : spot = none := by simpa [Addr.add] using World.cell?_spot hc0
      subst hspot
      refine .inr ⟨b, off, rfl, ?_, fun i hi => ?_⟩
      · have := World.block_lt_of_cell? W _ hc0
        rw [Addr.add_lit] at this; exact this
      · rw [length_byts, hlen] at hi
        have hci := hc _ rfl i (by omega)
        rw [Addr.add_lit] at hci
        rw [hci, get_byts _ _ (by rw [hlen]; exact hi)]
        have hbi := hb i (by omega)
        have e : (u8s (Z.take L)).getD i 0 = UInt8.ofNat (Z.getD i 0).toNat := by
          unfold u8s; simp [hi, show i < Z.length by omega]
        rw [e, UInt8.toNat_ofNat']
        congr 2
        omega
theorem cells_rows : Tryd.prog.cellsOf 22 = 1 := by kernel_rfl
theorem cells_u8 : Tryd.prog.cellsOf 5 = 1 := by kernel_rfl
/-- An argument that is a slice of slices of bytes. -/
theorem open_parts {H : Type} {enc : TypeId × Value → H} {W : World} {held : Bool} {b1 : Nat} {a : Option Addr} {len cap : Nat} {d : DataW H} {p : List MemPlace}
    (h : DataW.Trod enc Tryd.prog W b1 (fun _ => true) held 23 (.slice a len cap) d p) : ∃ ps : List Part, len = ps.length ∧ Parts W a cap ps ∧ ps.length ≤ 9223372036854775807 ∧ ∀ q ∈ ps, q.2.2.length ≤ 9223372036854775807 := by
  obtain ⟨fuel, hf⟩ := h
  rcases Deep.open_int_rows Tryd.underlying23 Tryd.underlying22 Tryd.underlying5 cells_rows cells_u8 hf with ⟨hcs, _⟩ | ⟨x, l, c, A, L, C, Z, hcs, _, hl, hm, _, hrow⟩
  · simp [Value.cells] at hcs
    obtain ⟨rfl, rfl, rfl⟩ := hcs
    exact ⟨[], rfl, ⟨⟨.inl rfl, Nat.le_refl _, fun _ => rfl⟩, fun q hq => by cases hq⟩, by simp, fun q hq => by cases hq⟩
  · simp [Value.cells] at hcs
    obtain ⟨rfl, rfl, rfl⟩ := hcs
    unfold maxLen at hm
    have hll : ∀ r, r < len → (u8s ((Z r).take (L r))).length = L r := by
      intro r hr
      obtain ⟨_, h1, _, h3, _⟩ := hrow r (by omega)
      rw [length_u8s, List.length_take]; omega
    refine ⟨(List.range len).map fun r => (A r, C r, u8s ((Z r).take (L r))), by simp, ⟨⟨?_, by simpa using hl, fun h => by cases h⟩, fun q hq => ?_⟩, by simp; omega, fun q hq => ?_⟩
    · by_cases h0 : len = 0
      · subst h0; exact .inl rfl
      · obtain ⟨b, off, spot⟩ := x
        have hc0 := (hrow 0 (by omega)).1
        have hspot : spot = none := by simpa [Addr.add] using World.cell?_spot hc0
        subst hspot
        refine .inr ⟨b, off, rfl, ?_, fun i hi => ?_⟩
        · have := World.block_lt_of_cell? W _ hc0
          rw [Addr.add_lit] at this; exact this
        · have hi' : i < len := by simpa using hi
          have hci := (hrow i (by omega)).1
          rw [Addr.add_lit] at hci
          rw [hci]
          simp [hi', partV, hll i hi']
    · obtain ⟨r, hr, rfl⟩ := List.mem_map.1 hq
      have hr' : r < cap := by have := List.mem_range.1 hr; omega
      obtain ⟨_, h1, _, h3, h4, h5, h6⟩ := hrow r hr'
      exact sl_of_cells h1 h3 h4 h5 (fun a' ha => (h6 a' ha).2)
    · obtain ⟨r, hr, rfl⟩ := List.mem_map.1 hq
      have hr'' := List.mem_range.1 hr
      obtain ⟨_, h1, h2, h3, _⟩ := hrow r (by omega)
      unfold maxLen at h2
      show (u8s ((Z r).take (L r))).length ≤ _
      rw [hll r hr'']
      omega
end Go.Proofs.YtaleakofpeacpaaDoor
