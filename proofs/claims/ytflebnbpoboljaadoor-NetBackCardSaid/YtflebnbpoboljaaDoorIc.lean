/- LAYER 12: the document's Check. -/
import Derived.Test.YtflebnbpoboljaaDoorIj
namespace Go.Proofs.YtflebnbpoboljaaDoor
set_option maxRecDepth 100000
open Go Go.RowKit

theorem size_adr : (Tryd.prog.info? 24).map (·.size) = some 17 := by kernel_rfl
theorem adr_cell {w : World} {g : Nat} {a : Adr} (h : a.Ok) (hr : Row w g 24 (adrV a)) (k : Nat) (hk : k < 16) : w.cell? ⟨g, 1 + k, none⟩ = some (.int .u8 ((a.b.getD k 0).toNat : Int)) := by
  rw [hr.cell, Nat.add_comm]
  show (byts a.b)[k]? = _
  rw [get_byts _ _ (by rw [h]; exact hk)]
theorem adr_v6 {w : World} {g : Nat} {a : Adr} (hr : Row w g 24 (adrV a)) : w.cell? ⟨g, 0, none⟩ = some (.bool a.v6) := by rw [hr.cell]; rfl
theorem checkA_bad (a : Adr) (h : a.Ok) (h6 : a.v6 = false) (k : Nat) (h4 : 4 ≤ k) (hk : k < 16) (hb : a.b.getD k 0 ≠ 0) : checkA a = false := by
  unfold checkA
  rw [h6, Bool.false_or]
  rw [List.all_eq_false]
  refine ⟨a.b.getD k 0, ?_, by simpa using hb⟩
  have hl : k < a.b.length := by rw [h]; exact hk
  have e : (a.b.drop 4)[k - 4]? = some (a.b.getD k 0) := by rw [List.getElem?_drop, show 4 + (k - 4) = k by omega, List.getElem?_eq_getElem hl, List.getD_eq_getElem?_getD, List.getElem?_eq_getElem hl]; rfl
  exact List.mem_of_getElem? e
theorem checkA_good (a : Adr) (h : a.Ok) (hz : ∀ k, 4 ≤ k → k < 16 → a.b.getD k 0 = 0) : checkA a = true := by
  unfold checkA
  rw [Bool.or_eq_true]
  right
  rw [List.all_eq_true]
  intro x hx
  obtain ⟨k, hk⟩ := List.getElem?_of_mem hx
  rw [List.getElem?_drop] at hk
  have hl : 4 + k < a.b.length := (List.getElem?_eq_some_iff.1 hk).1
  have := hz (4 + k) (by omega) (by rw [h] at hl; exact hl)
  rw [List.getD_eq_getElem?_getD, hk] at this
  simpa using this
theorem rcheckA_any (a : Adr) (h : a.Ok) (w : World) :
    Calls Tryd.prog 26 #[.agg (adrV a).toArray] w fun e w' => e = .returned (.bool (checkA a)) ∧ Below w.heap.size w w' := by
  obtain ⟨w1, hw1⟩ : ∃ w1, w1 = w.alloc (.cells (adrV a).toArray 24) := ⟨_, rfl⟩
  have hr : Row w1 w.heap.size 24 (adrV a) := by rw [hw1]; exact Row.new w _ _
  have hb : Below w.heap.size w w1 := by rw [hw1]; exact (Below.refl _ w).alloc (Nat.le_refl _) _
  have hc6 := adr_v6 hr
  obtain ⟨V, hV⟩ : ∃ V, V = adrV a := ⟨_, rfl⟩
  rw [← hV] at hw1 ⊢
  clear hV
  cases h6 : a.v6 with
  | true =>
    rw [h6] at hc6
    have HC := Lib.hid (show checkA a = true by unfold checkA; rw [h6]; rfl)
    clear hr
    go_enter Tryd.func26, Tryd.ntmps26
    subst hw1
    go_wp2
    go_ret
    exact ⟨by rw [HC.out]; rfl, hb⟩
  | false =>
    rw [h6] at hc6
    go_enter Tryd.func26, Tryd.ntmps26
    subst hw1
    go_wp2
    go_loop [3] (fun i => ∃ k : Nat, 4 ≤ k ∧ k ≤ 16 ∧ i = .int .i64 k ∧ ∀ j, 4 ≤ j → j < k → a.b.getD j 0 = 0) (fun i => 16 - (intOf i).toNat)
    case atStart => exact ⟨4, by omega, by omega, rfl, fun j h1 h2 => by omega⟩
    case round =>
      obtain ⟨k, h4, hk, rfl, hz⟩ := hrel
      by_cases hlt : k < 16
      · have hcb := adr_cell h hr k hlt
        by_cases h0 : a.b.getD k 0 = 0
        · have HZ := Lib.hid (show ∀ j, 4 ≤ j → j < k + 1 → a.b.getD j 0 = 0 from fun j h1 h2 => by
            by_cases e : j = k
            · rw [e]; exact h0
            · exact hz j h1 (by omega))
          rw [h0] at hcb
          clear hz h0 hr
          go_wp2
          go_round
          case rel => exact ⟨k + 1, by omega, by omega, by go_num, HZ.out⟩
          case measure => simp [intOf]; omega
        · have HC := Lib.hid (checkA_bad a h h6 k h4 hlt h0)
          have h0' : (((a.b.getD k 0).toNat : Int) == 0) = false := by
            rw [beq_eq_false_iff_ne]
            intro he
            exact h0 (UInt8.toNat_inj.1 (by show (a.b.getD k 0).toNat = 0; omega))
          generalize a.b.getD k 0 = x at *
          clear hz h0 hr
          go_wp2
          go_ret
          exact ⟨by rw [HC.out]; rfl, hb⟩
      · obtain rfl : k = 16 := by omega
        have HC := Lib.hid (checkA_good a h hz)
        clear hz hr
        go_wp2
        go_ret
        exact ⟨by rw [HC.out]; rfl, hb⟩
end Go.Proofs.YtflebnbpoboljaaDoor
