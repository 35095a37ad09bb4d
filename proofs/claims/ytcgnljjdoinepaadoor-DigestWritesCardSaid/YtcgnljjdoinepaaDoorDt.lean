/- LAYER 3: the chapter's example. -/
import Derived.Test.YtcgnljjdoinepaaDoorDo
import Derived.Test.YtcgnljjdoinepaaDoorEq
import Derived.Lib.SlBytesConst
namespace Go.Proofs.YtcgnljjdoinepaaDoor
open Go Go.RowKit

def abcL : List UInt8 := [0xba, 0x78, 0x16, 0xbf, 0x8f, 0x01, 0xcf, 0xea, 0x41, 0x41, 0x40, 0xde, 0x5d, 0xae, 0x22, 0x23, 0xb0, 0x03, 0x61, 0xa3, 0x96, 0x17, 0x7a, 0x9c, 0xb4, 0x10, 0xff, 0x61, 0xf2, 0x00, 0x15, 0xad]
theorem abc_cells : (#[.int .u8 186, .int .u8 120, .int .u8 22, .int .u8 191, .int .u8 143, .int .u8 1, .int .u8 207, .int .u8 234, .int .u8 65, .int .u8 65, .int .u8 64, .int .u8 222, .int .u8 93, .int .u8 174, .int .u8 34, .int .u8 35, .int .u8 176, .int .u8 3, .int .u8 97, .int .u8 163, .int .u8 150, .int .u8 23, .int .u8 122, .int .u8 156, .int .u8 180, .int .u8 16, .int .u8 255, .int .u8 97, .int .u8 242, .int .u8 0, .int .u8 21, .int .u8 173] : Array Value) = (byts abcL).toArray := by kernel_rfl
theorem sha_abc : shaL [97, 98, 99] = abcL := by decide +kernel
def abcP (w : World) : List Part := [(some ⟨w.heap.size, 0, none⟩, 3, [97, 98, 99])]
theorem flat_abc (w : World) : flat (abcP w) = [97, 98, 99] := rfl
theorem Rd.block {w : World} {g : Nat} {t : TypeId} {fr : Nat × Nat} {xs : List Value} (h : w.heap[g]? = some (.cells xs.toArray t fr)) : Rd w (some ⟨g, 0, none⟩) xs :=
  .inr ⟨g, 0, rfl, (Array.getElem?_eq_some_iff.1 h).1, fun i _ => by rw [Nat.zero_add, cell_of_row w g i _ t fr h]; simp⟩
theorem parts_abc (w : World) (C : Array Value) (fr : Nat × Nat) (hC : C = (byts [97, 98, 99]).toArray) : Parts ((w.alloc (.cells C 5 fr)).alloc (.cells #[.slice (some ⟨w.heap.size, 0, none⟩) 3 3] 24)) (some ⟨w.heap.size + 1, 0, none⟩) 1 (abcP w) := by
  subst hC
  have s1 : (w.alloc (.cells (byts [97, 98, 99]).toArray 5 fr)).heap.size = w.heap.size + 1 := World.size_alloc _ _
  have r1 := Row.new (w.alloc (.cells (byts [97, 98, 99]).toArray 5 fr)) 24 [.slice (some ⟨w.heap.size, 0, none⟩) 3 3]
  rw [s1] at r1
  refine ⟨⟨Rd.row (ys := []) (by rw [List.append_nil]; exact r1), by simp [abcP], fun h => by cases h⟩, fun p hp => ?_⟩
  obtain rfl : p = (some ⟨w.heap.size, 0, none⟩, 3, [97, 98, 99]) := by simpa [abcP] using hp
  exact ⟨Rd.block (Eq.trans (Go.heap_alloc_old _ _ (by rw [s1]; omega)) (Go.heap_alloc_new w _)), by simp [length_byts], fun h => by cases h⟩
theorem dalive_any (w : World) (hT : Tabs w) :
    Calls Tryd.prog 6 #[] w fun e w' => e = .returned (.bool true) ∧ Below w.heap.size w w' := by
  obtain ⟨V, hV⟩ : ∃ V, V = byts abcL := ⟨_, rfl⟩
  have hVl : V.length = 32 := by rw [hV, length_byts]; rfl
  obtain ⟨i0, hi, hz0, hz1, hz2⟩ := info_parts infoByte
  have hE : ∀ w, (Op.equalIn 10000 26 (.agg V.toArray) (.agg (byts abcL).toArray)).run Tryd.prog w = .ok true w := by
    intro w
    rw [hV, run_eq_bytes 26 32 i0 Tryd.underlying26 hi abcL abcL rfl rfl w]; simp
  have hone := Lib.hid (all_one (show ∀ v ∈ V, v.oneCell' = true by rw [hV]; exact byts_one _))
  have hsz := Lib.hid (show (Tryd.prog.info? 26).map (·.size) = some V.toArray.size by rw [size_tag, List.size_toArray, hVl])
  have h32 := Lib.hid (show 32 = V.toArray.size by rw [List.size_toArray, hVl])
  have HV := Lib.hid hV
  rw [← abc_cells] at hE
  clear hV hVl
  have kc := fun (w : World) (C : Array Value) (n c : Nat) => Lib.run_convert_bytes_const (P := Tryd.prog) w 24 5 C n c Tryd.underlying24 Tryd.underlying5
  go_enter Tryd.func6, Tryd.ntmps6
  go_wp2_with (first
    | (go_at_call 7; refine (of_any _ 1 1 (abcP w) _ (hT.later (((Below.refl _ w).alloc (Nat.le_refl _) _).alloc (by rw [World.size_alloc]; omega) _) (Nat.le_refl _)) (parts_abc w _ _ rfl) rfl (by rw [flat_abc]; decide) (by simp [abcP])).mono ?_; rintro e w3 ⟨rfl, hb3⟩; rw [flat_abc, sha_abc, ← HV.out])
    | (with_reducible refine wpList_store_row rfl 26 (.tmp 1) (.tmp 5) rfl w3.heap.size V.toArray rfl rfl 26 _ (heap_alloc_new w3 _) hsz.out (Eq.trans (by kernel_rfl) h32.out) hone.out ?_; refine Hid.out ?_))
  refine Lib.hid ?_
  generalize hw4 : World.setRow _ _ _ = w4
  obtain ⟨r4, hb4⟩ := row_new_set (xs := V) hw4
  have R4 := Lib.hid (show w4.heap[w3.heap.size]? = some (.cells V.toArray 26 (0, 0)) from r4)
  have hb5 : Below w.heap.size w w4 := ((((Below.refl _ w).alloc (Nat.le_refl _) _).alloc (by rw [World.size_alloc]; omega) _).trans (hb3.mono (by rw [World.size_alloc, World.size_alloc]; omega))).trans (hb4.mono (by have := hb3.size; rw [World.size_alloc, World.size_alloc] at this; omega))
  clear hw4 r4
  go_wp2_with (with_reducible refine wpList_load_row rfl 26 (.tmp 1) rfl w3.heap.size rfl 26 V.toArray (0, 0) (.array 32 5) R4.out Tryd.underlying26 rfl hsz.out ?_)
  go_ret
  exact ⟨rfl, hb5⟩
end Go.Proofs.YtcgnljjdoinepaaDoor
