/- LAYER 15: costAlive. -/
import Derived.Test.YtimhhnhppnknhaaDoorZe
import Derived.Test.YtimhhnhppnknhaaDoorFt
namespace Go.Proofs.YtimhhnhppnknhaaDoor
set_option maxRecDepth 100000
open Go Go.RowKit

theorem calive_any (w : World) (hE : EnvC w) : Calls Tryd.prog 6 #[] w fun e w' => e = .returned (.bool true) ∧ Below w.heap.size w w' := by
  have h1 := fun w' h => ctext_any 4609434218613702656 (by decide) w' h
  rw [text_15] at h1
  have h2 := fun w' h => ctext_any 4620693217682128896 (by decide) w' h
  rw [text_8] at h2
  have H1 := Lib.hid h1
  have H2 := Lib.hid h2
  have tok : True := trivial
  have e1 : (bstr [51, 112, 45, 49]).toList = [51, 112, 45, 49] := bstr_toList _
  have e2 : (bstr [49, 112, 51]).toList = [49, 112, 51] := bstr_toList _
  clear h1 h2
  go_enter Tryd.func6, Tryd.ntmps6
  go_wp2_with (first
    | (go_at_call 12; have _t := tok; refine (H1.out _ hE).mono ?_; rintro e w1 ⟨rfl, hb1⟩; clear tok)
    | (go_at_call 12; refine (H2.out _ (hE.next hb1)).mono ?_; rintro e w2 ⟨rfl, hb2⟩; have hb2 := hb1.trans (hb2.mono hb1.size)))
  go_ret
  exact ⟨rfl, hb2⟩
end Go.Proofs.YtimhhnhppnknhaaDoor
