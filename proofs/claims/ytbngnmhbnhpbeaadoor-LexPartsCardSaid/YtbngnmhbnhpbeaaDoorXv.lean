/- LAYER 16: lexAlive. -/
import Derived.Test.YtbngnmhbnhpbeaaDoorXc
namespace Go.Proofs.YtbngnmhbnhpbeaaDoor
set_option maxRecDepth 100000
open Go Go.RowKit

set_option maxHeartbeats 2000000 in
theorem xalive_any (w : World) (hE : EnvX w) : Calls Tryd.prog 6 #[] w fun e w' => e = .returned (.bool true) ∧ Below w.heap.size w w' := by
  have h1 := fun w' h => xnames_any [108, 105, 115, 116, 44, 114, 101, 97, 100] (by decide) w' h
  rw [show namesC [108, 105, 115, 116, 44, 114, 101, 97, 100] = some [[108, 105, 115, 116], [114, 101, 97, 100]] by decide +kernel] at h1
  have h2 := fun w' h => xnames_any [114, 101, 97, 100, 44, 108, 105, 115, 116] (by decide) w' h
  rw [show namesC [114, 101, 97, 100, 44, 108, 105, 115, 116] = none by decide +kernel] at h2
  have H1 := Lib.hid h1
  have H2 := Lib.hid h2
  have tok : True := trivial
  clear h1 h2
  go_enter Tryd.func6, Tryd.ntmps6
  go_wp2_with (first
    | (go_at_call 11; have _t := tok; refine (H1.out _ hE).mono ?_; rintro e w1 ⟨A1, c1, rfl, hs1, hb1⟩; clear tok)
    | (go_at_call 11; refine (H2.out _ (hE.next hb1)).mono ?_; rintro e w2 ⟨A2, c2, rfl, hs2, hb2⟩; have hb2 := hb1.trans (hb2.mono hb1.size)))
  go_ret
  exact ⟨rfl, hb2⟩
end Go.Proofs.YtbngnmhbnhpbeaaDoor
