/- LAYER 5: the chapter's example. -/
import Derived.Test.YtbleokbjihdopaaTx
import Derived.Test.YtbleokbjihdopaaCv
namespace Go.Proofs.Ytbleokbjihdopaa
open Go Go.RowKit

/-- Two rows of one byte that are made for this, held against each other. -/
theorem one_equal (x y : UInt8) (w : World) (C D : Array Value) (fr fq : Nat × Nat) (hC : C = (byts [x]).toArray) (hD : D = (byts [y]).toArray) :
    Calls Try.prog 8 #[.slice (some ⟨w.heap.size, 0, none⟩) 1 1, .slice (some ⟨w.heap.size + 1, 0, none⟩) 1 1] ((w.alloc (.cells C 5 fr)).alloc (.cells D 5 fq)) fun e w' => e = .returned (.bool (decide (x = y))) ∧ Below w.heap.size w w' := by
  have h1 := (sl_lit w [x] C fr hC 1 rfl).later (Nat.le_refl _) ((Below.refl _ _).alloc (Nat.le_refl _) (.cells D 5 fq))
  have h2 := sl_lit (w.alloc (.cells C 5 fr)) [y] D fq hD 1 rfl
  rw [World.size_alloc] at h2
  refine (equal_any _ 1 1 [x] _ 1 1 [y] _ h1 rfl h2 rfl (by simp) (by simp)).mono ?_
  rintro e w' ⟨rfl, rfl⟩
  exact ⟨by simp, below_two w _ _⟩
def ababT : List UInt8 := 171 :: 171 :: List.replicate 30 0
theorem abab_text (w : World) : (Instr.sliceAt 9 (.string (bstr (hexL ababT))) none (some (.int .i64 6)) none).run Try.prog w = .ok (.string { data := #[97, 98, 97, 98, 48, 48] }) w := by kernel_rfl
theorem abab_cells : (byts ababT) = .int .u8 171 :: .int .u8 171 :: List.replicate 30 (.int .u8 0) := by kernel_rfl
theorem build_abab (w : World) : (Instr.build 25 #[(0, .int .u8 171), (1, .int .u8 171)]).run Try.prog w = .ok (.agg (byts ababT).toArray) w := by kernel_rfl
set_option maxHeartbeats 1000000 in
theorem talive_any (w : World) :
    Calls Try.prog 6 #[] w fun e w' => e = .returned (.bool true) ∧ Below w.heap.size w w' := by
  have hsl := abab_text
  have hsz : (bstr (hexL ababT)).size = 64 := by rw [size_bstr]; rfl
  obtain ⟨S, hS⟩ : ∃ S, S = bstr (hexL ababT) := ⟨_, rfl⟩
  rw [← hS] at hsl hsz
  have HS := Lib.hid hS
  clear hS
  obtain ⟨V, hV⟩ : ∃ V, V = byts ababT := ⟨_, rfl⟩
  have hVl : V.length = 32 := by rw [hV]; rfl
  have hsz2 := Lib.hid (show (Try.prog.info? 25).map (·.size) = some V.toArray.size by rw [size_tag, List.size_toArray, hVl])
  have HV := Lib.hid hV
  clear hV hVl
  go_enter Try.func6, Try.ntmps6
  go_wp2_with (with_reducible refine wpList_store_row rfl 25 (.tmp 1) (.tmp 3) rfl w.heap.size _ rfl rfl 25 _ (heap_alloc_new w _) (by kernel_rfl) (by kernel_rfl) (by kernel_rfl) ?_; refine Hid.out ?_)
  refine Lib.hid ?_
  generalize hw4 : World.setRow _ _ _ = w4
  obtain ⟨r4, hb4⟩ := row_new_set hw4
  have r4 : Row w4 w.heap.size 25 V := by rw [HV.out, abab_cells]; exact r4
  have H4 := Lib.hid (show w4.heap[w.heap.size]? = some (.cells V.toArray 25 (0, 0)) from r4)
  clear hw4 r4
  have tok1 : True := trivial
  go_wp2_with (first
    | (with_reducible refine wpList_load_row rfl 25 (.tmp 1) rfl w.heap.size rfl 25 V.toArray (0, 0) _ H4.out Try.underlying25 rfl hsz2.out ?_)
    | (go_at_call 11; rw [HV.out]; refine (text_any ababT rfl _).mono ?_; rintro e w5 ⟨rfl, hb5⟩; rw [← HS.out]; have hb6 := hb4.trans (hb5.mono hb4.size))
    | (go_at_call 8; have _t := tok1; refine (one_equal 1 1 w5 _ _ _ _ rfl rfl).mono ?_; rintro e w7 ⟨rfl, hb7⟩; have hb8 := hb6.trans (hb7.mono hb6.size); clear tok1)
    | (go_at_call 8; refine (one_equal 1 2 w7 _ _ _ _ rfl rfl).mono ?_; rintro e w9 ⟨rfl, hb9⟩; have hb10 := hb8.trans (hb9.mono hb8.size)))
  go_ret
  exact ⟨rfl, hb10⟩
end Go.Proofs.Ytbleokbjihdopaa
