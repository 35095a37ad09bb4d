/- LAYER 16: package lex: Name, fit, Names, Words, Join. -/
import Derived.Test.YtbngnmhbnhpbeaaDoorXa
import Derived.Test.YtbngnmhbnhpbeaaDoorXj
import Derived.Test.YtbngnmhbnhpbeaaDoorXw
import Derived.Test.YtbngnmhbnhpbeaaDoorXs
import Derived.Test.YtbngnmhbnhpbeaaDoorSh
import Derived.Lib.Join
namespace Go.Proofs.YtbngnmhbnhpbeaaDoor
set_option maxRecDepth 100000
open Go Go.RowKit Go.Lib

/-- What the one listed variable holds that the library's searches come to. -/
def EnvX (w : World) : Prop := ∃ m, w.cell? ⟨3, 0, none⟩ = some (.int .i64 m)
theorem cell_later16 {w w' : World} {B b o : Nat} {v : Value} (h : w.cell? ⟨b, o, none⟩ = some v) (hB : w.heap.size ≤ B) (hb : Below B w w') : w'.cell? ⟨b, o, none⟩ = some v := by
  obtain ⟨c, e, fr, hb', _⟩ := Go.Sort.cells_of_cell? h
  rw [hb.cell (Nat.lt_of_lt_of_le (Array.getElem?_eq_some_iff.1 hb').1 hB)]
  exact h
theorem EnvX.next {w w' : World} (h : EnvX w) (hb : Below w.heap.size w w') : EnvX w' := by
  obtain ⟨m, hm⟩ := h
  exact ⟨m, cell_later16 hm (Nat.le_refl _) hb⟩
theorem strangeW_any (x : Nat) (w : World) : Calls Tryd.prog 19 #[.int .i32 x] w fun e w' => e = .returned (.bool (strangeX 32 126 x)) ∧ Below w.heap.size w w' := by
  by_cases h1 : x < 32
  · have a1 : (x : Int) < 32 := by omega
    have HV : strangeX 32 126 x = true := by unfold strangeX; rw [decide_eq_true h1]; rfl
    rw [HV]
    clear HV
    go_enter Tryd.func19, Tryd.ntmps19
    go_wp2
    go_ret
    exact ⟨rfl, Below.refl _ _⟩
  · have a1 : decide ((x : Int) < 32) = false := decide_eq_false (by omega)
    have HV : strangeX 32 126 x = decide ((126 : Int) < (x : Int)) := by unfold strangeX; rw [decide_eq_false h1, Bool.false_or]; exact decide_eq_decide.2 (by omega)
    rw [HV]
    clear HV h1
    go_enter Tryd.func19, Tryd.ntmps19
    go_wp2
    go_ret
    exact ⟨rfl, Below.refl _ _⟩
theorem strangeM_any (x : Nat) (w : World) : Calls Tryd.prog 29 #[.int .i32 x] w fun e w' => e = .returned (.bool (strangeX 97 122 x)) ∧ Below w.heap.size w w' := by
  by_cases h1 : x < 97
  · have a1 : (x : Int) < 97 := by omega
    have HV : strangeX 97 122 x = true := by unfold strangeX; rw [decide_eq_true h1]; rfl
    rw [HV]
    clear HV
    go_enter Tryd.func29, Tryd.ntmps29
    go_wp2
    go_ret
    exact ⟨rfl, Below.refl _ _⟩
  · have a1 : decide ((x : Int) < 97) = false := decide_eq_false (by omega)
    have HV : strangeX 97 122 x = decide ((122 : Int) < (x : Int)) := by unfold strangeX; rw [decide_eq_false h1, Bool.false_or]; exact decide_eq_decide.2 (by omega)
    rw [HV]
    clear HV h1
    go_enter Tryd.func29, Tryd.ntmps29
    go_wp2
    go_ret
    exact ⟨rfl, Below.refl _ _⟩
set_option maxHeartbeats 2000000 in
theorem xname_any (s : List UInt8) (hs : s.length ≤ 100000) (w : World) : Calls Tryd.prog 14 #[.string (bstr s)] w fun e w' => e = .returned (.bool (name16 s)) ∧ Below w.heap.size w w' := by
  have hz := size_bstr s
  have HV := Lib.hid (name16_iff s)
  have hcf := fun W => Tryd.strings_ContainsFunc_grows 29 #[] (enters_of Tryd.func29 (by kernel_rfl) rfl) (strangeX 97 122) (bstr s) W (fun W' x _ _ => strangeM_any x W')
  rw [idx_low] at hcf
  have HC := Lib.hid hcf
  clear hcf
  generalize name16 s = V at *
  have e0 := bstr_empty s
  by_cases h0 : s = []
  · have HW := Lib.hid (show V = false by rw [HV.out, h0]; rfl)
    rw [decide_eq_true h0] at e0
    clear HV h0 HC
    go_enter Tryd.func14, Tryd.ntmps14
    go_wp2
    go_ret
    exact ⟨by rw [HW.out]; rfl, Below.refl _ _⟩
  rw [decide_eq_false h0] at e0
  have hpos : 1 ≤ s.length := List.length_pos_iff.2 h0
  by_cases h2 : 16 < s.length
  · have HW := Lib.hid (show V = false by rw [HV.out, decide_eq_false (by omega : ¬ s.length ≤ 16), Bool.and_false]; rfl)
    have a2 : decide ((s.length : Int) ≤ 16) = false := decide_eq_false (by omega)
    clear HV h0 HC
    go_enter Tryd.func14, Tryd.ntmps14
    go_wp2
    go_ret
    exact ⟨by rw [HW.out]; rfl, Below.refl _ _⟩
  have a2 : (s.length : Int) ≤ 16 := by omega
  have HW := Lib.hid (show V = s.all lowB by rw [HV.out, decide_eq_true hpos, decide_eq_true (show s.length ≤ 16 by omega)]; rfl)
  clear HV h0 h2 hpos
  go_enter Tryd.func14, Tryd.ntmps14
  go_wp2_with (go_at_call 20; refine (HC.out _).mono ?_; rintro e w' ⟨rfl, hb⟩)
  go_ret
  exact ⟨by rw [HW.out]; simp, hb⟩
end Go.Proofs.YtbngnmhbnhpbeaaDoor
