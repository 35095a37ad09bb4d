/- LAYER 6: deriveAlive. -/
import Derived.Test.YtefbopgbikmohaaDoorDf
namespace Go.Proofs.YtefbopgbikmohaaDoor
open Go Go.RowKit

theorem strs_lit (w : World) (ss : List (List UInt8)) (C : Array Value) (fr : Nat × Nat) (hC : C = (strsV ss).toArray) (n : Nat) (hn : ss.length = n) : Sl (w.alloc (.cells C 9 fr)) (some ⟨w.heap.size, 0, none⟩) n (strsV ss) := by
  subst hC hn
  exact ⟨Rd.block (Go.heap_alloc_new w _), by rw [length_strsV]; exact Nat.le_refl _, fun h => by cases h⟩
def aliveP : List (List UInt8) := [[97], []]
def aliveF : List UInt8 := [0, 0, 0, 0, 0, 0, 0, 1, 97, 0, 0, 0, 0, 0, 0, 0, 0]
theorem alive_frame : frameL aliveP = aliveF := by decide +kernel
theorem alive_frame_any (A : Option Addr) (c : Nat) (w : World) (h : Sl w A c (strsV aliveP)) :
    Calls Tryd.prog 7 #[.slice A 2 c] w fun e w' => ∃ b o c, e = .returned (.slice (some ⟨b, o, none⟩) 17 c) ∧ w'.cell? ⟨b, o + 7, none⟩ = some (.int .u8 1) ∧ w'.cell? ⟨b, o + 8, none⟩ = some (.int .u8 97) ∧ w'.cell? ⟨b, o + 16, none⟩ = some (.int .u8 0) ∧ Below w.heap.size w w' := by
  refine (dframe_any A 2 c aliveP w h rfl (by decide)).mono ?_
  rw [alive_frame]
  rintro e w' ⟨v, rfl, hown, hb⟩
  obtain ⟨A', c', rfl, _, hsl⟩ := Sl.of_own hown
  obtain ⟨b, o, rfl, _, c7⟩ := hsl.rd.get (i := 7) (by rw [length_byts]; decide)
  obtain ⟨_, _, e8, _, c8⟩ := hsl.rd.get (i := 8) (by rw [length_byts]; decide)
  cases e8
  obtain ⟨_, _, e9, _, c9⟩ := hsl.rd.get (i := 16) (by rw [length_byts]; decide)
  cases e9
  exact ⟨b, o, c', rfl, c7, c8, c9, hb⟩
set_option maxRecDepth 20000 in
set_option maxHeartbeats 1000000 in
theorem dalive_any (w : World) :
    Calls Tryd.prog 5 #[] w fun e w' => e = .returned (.bool true) ∧ Below w.heap.size w w' := by
  go_enter Tryd.func5, Tryd.ntmps5
  go_wp2_with (go_at_call 7; refine (alive_frame_any _ 2 _ (strs_lit w aliveP _ _ (by kernel_rfl) 2 rfl)).mono ?_; rintro e w3 ⟨b, o, c, rfl, c7, c8, c9, hb3⟩; have hb4 := ((Below.refl w.heap.size w).alloc (Nat.le_refl _) (.cells (strsV aliveP).toArray 9)).trans (hb3.mono (by rw [World.size_alloc]; omega)); have ix7 := index_bytes (some ⟨b, o, none⟩) b o 17 c 7 rfl (by omega); have ix8 := index_bytes (some ⟨b, o, none⟩) b o 17 c 8 rfl (by omega); have ix9 := index_bytes (some ⟨b, o, none⟩) b o 17 c 16 rfl (by omega); clear hb3)
  go_ret
  exact ⟨rfl, hb4⟩
end Go.Proofs.YtefbopgbikmohaaDoor
