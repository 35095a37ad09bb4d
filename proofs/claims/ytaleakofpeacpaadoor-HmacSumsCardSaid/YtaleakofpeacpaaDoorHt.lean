/- LAYER 4: the chapter's example. -/
import Derived.Test.YtaleakofpeacpaaDoorHo
import Derived.Lib.SlBytesConst
namespace Go.Proofs.YtaleakofpeacpaaDoor
open Go Go.RowKit

def jefeL : List UInt8 := [74, 101, 102, 101]
def wantL : List UInt8 := [119, 104, 97, 116, 32, 100, 111, 32, 121, 97, 32, 119, 97, 110, 116, 32, 102, 111, 114, 32, 110, 111, 116, 104, 105, 110, 103, 63]
def jefeM : List UInt8 := [91, 220, 193, 70, 191, 96, 117, 78, 106, 4, 36, 38, 8, 149, 117, 199, 90, 0, 63, 8, 157, 39, 57, 131, 157, 236, 88, 185, 100, 236, 56, 67]
theorem jefe_cells : (#[.int .u8 74, .int .u8 101, .int .u8 102, .int .u8 101] : Array Value) = (byts jefeL).toArray := by kernel_rfl
theorem want_cells : (#[.int .u8 119, .int .u8 104, .int .u8 97, .int .u8 116, .int .u8 32, .int .u8 100, .int .u8 111, .int .u8 32, .int .u8 121, .int .u8 97, .int .u8 32, .int .u8 119, .int .u8 97, .int .u8 110, .int .u8 116, .int .u8 32, .int .u8 102, .int .u8 111, .int .u8 114, .int .u8 32, .int .u8 110, .int .u8 111, .int .u8 116, .int .u8 104, .int .u8 105, .int .u8 110, .int .u8 103, .int .u8 63] : Array Value) = (byts wantL).toArray := by kernel_rfl
theorem mac_jefe : macL jefeL wantL = jefeM := by decide +kernel
theorem parts_lit (w : World) (N : Nat) (hN : w.heap.size = N) (l : List UInt8) (C : Array Value) (fr : Nat × Nat) (hC : C = (byts l).toArray) (n : Nat) (hn : l.length = n) : Parts ((w.alloc (.cells C 5 fr)).alloc (.cells #[.slice (some ⟨N, 0, none⟩) n n] 22)) (some ⟨N + 1, 0, none⟩) 1 [(some ⟨N, 0, none⟩, n, l)] := by
  subst hC hN hn
  have s1 : (w.alloc (.cells (byts l).toArray 5 fr)).heap.size = w.heap.size + 1 := World.size_alloc _ _
  have r1 := Row.new (w.alloc (.cells (byts l).toArray 5 fr)) 22 [.slice (some ⟨w.heap.size, 0, none⟩) l.length l.length]
  rw [s1] at r1
  refine ⟨⟨Rd.row (ys := []) (by rw [List.append_nil]; exact r1), by simp, fun h => by cases h⟩, fun p hp => ?_⟩
  obtain rfl : p = (some ⟨w.heap.size, 0, none⟩, l.length, l) := by simpa using hp
  exact ⟨Rd.block (Eq.trans (Go.heap_alloc_old _ _ (by rw [s1]; omega)) (Go.heap_alloc_new w _)), by simp [length_byts], fun h => by cases h⟩
theorem sl_lit (w : World) (l : List UInt8) (C : Array Value) (fr : Nat × Nat) (hC : C = (byts l).toArray) (n : Nat) (hn : l.length = n) : Sl (w.alloc (.cells C 5 fr)) (some ⟨w.heap.size, 0, none⟩) n (byts l) := by
  subst hC hn
  exact ⟨Rd.block (Go.heap_alloc_new w _), by simp [length_byts], fun h => by cases h⟩
theorem below_three (w : World) (X Y Z : Obj) : Below w.heap.size w (((w.alloc X).alloc Y).alloc Z) := (below_two w X Y).alloc (by rw [World.size_alloc, World.size_alloc]; omega) Z
set_option maxRecDepth 20000 in
set_option maxHeartbeats 1000000 in
theorem halive_any (w : World) (hT : Tabs w) :
    Calls Tryd.prog 5 #[] w fun e w' => e = .returned (.bool true) ∧ Below w.heap.size w w' := by
  obtain ⟨V, hV⟩ : ∃ V, V = byts jefeM := ⟨_, rfl⟩
  have hVl : V.length = 32 := by rw [hV, length_byts]; rfl
  have hone := Lib.hid (all_one (show ∀ v ∈ V, v.oneCell' = true by rw [hV]; exact byts_one _))
  have hsz := Lib.hid (show (Tryd.prog.info? 29).map (·.size) = some V.toArray.size by rw [size_tag, List.size_toArray, hVl])
  have h32 := Lib.hid (show 32 = V.toArray.size by rw [List.size_toArray, hVl])
  have HV := Lib.hid hV
  have V0 := Lib.hid (show V[0]? = some (.int .u8 91) by rw [hV]; rfl)
  have V1 := Lib.hid (show V[1]? = some (.int .u8 220) by rw [hV]; rfl)
  have V2 := Lib.hid (show V[2]? = some (.int .u8 193) by rw [hV]; rfl)
  have V3 := Lib.hid (show V[3]? = some (.int .u8 70) by rw [hV]; rfl)
  clear hV hVl
  have kc := fun (w : World) (C : Array Value) (n c : Nat) => Lib.run_convert_bytes_const (P := Tryd.prog) w 22 5 C n c Tryd.underlying22 Tryd.underlying5
  have kc2 : ∀ (w : World) (X : Obj) (C : Array Value) (n c : Nat), (convert 22 22 (.slice (some ⟨w.heap.size + 1, 0, none⟩) n c)).run Tryd.prog ((w.alloc X).alloc (.cells C 5)) = .ok (.slice (some ⟨w.heap.size + 1, 0, none⟩) n c) ((w.alloc X).alloc (.cells C 5 (C.size, C.size + 1))) := by
    intro w X C n c
    have h := kc (w.alloc X) C n c
    rw [World.size_alloc] at h
    exact h
  go_enter Tryd.func5, Tryd.ntmps5
  go_wp2_with (first
    | (go_at_call 10; refine (mof_any _ 4 4 jefeL _ 1 1 [(some ⟨w.heap.size + 1, 0, none⟩, 28, wantL)] _ (hT.later (below_three w _ _ _) (Nat.le_refl _)) (((sl_lit w jefeL _ (_, _) jefe_cells 4 rfl).later (Nat.le_refl _) ((Below.refl _ _).alloc (Nat.le_refl _) _)).later (Nat.le_refl _) ((Below.refl _ _).alloc (Nat.le_refl _) _)) rfl (parts_lit _ (w.heap.size + 1) (World.size_alloc _ _) wantL _ (_, _) want_cells 28 rfl) rfl (by decide) (by rw [flat_one]; decide) (by simp)).mono ?_; rintro e w3 ⟨rfl, hb3⟩; rw [flat_one, mac_jefe, ← HV.out]; have hb3 := (below_three w _ _ _).trans (hb3.mono (below_three w _ _ _).size))
    | (with_reducible refine wpList_store_row rfl 29 (.tmp 1) (.tmp 7) rfl w3.heap.size V.toArray rfl rfl 29 _ (heap_alloc_new w3 _) hsz.out (Eq.trans (by kernel_rfl) h32.out) hone.out ?_; refine Hid.out ?_))
  refine Lib.hid ?_
  generalize hw4 : World.setRow _ _ _ = w4
  obtain ⟨r4, hb4⟩ := row_new_set (xs := V) hw4
  have c0 := (r4.cell 0).trans V0.out
  have c1 := (r4.cell 1).trans V1.out
  have c2 := (r4.cell 2).trans V2.out
  have c3 := (r4.cell 3).trans V3.out
  have hb5 := hb3.trans (hb4.mono hb3.size)
  clear hw4 r4 hb3 hb4
  go_wp2
  go_ret
  exact ⟨rfl, hb5⟩
end Go.Proofs.YtaleakofpeacpaaDoor
