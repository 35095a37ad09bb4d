/- LAYER 10, PacketBack: what its walks share. -/
import Derived.Test.YthiebbhooigogaaPa
import Derived.Test.YthiebbhooigogaaDc0
namespace Go.Proofs.Ythiebbhooigogaa
open Go Go.RowKit

theorem check_fit {t : Tok} (h : checkT t = true) : t.Fit ∧ t.cavs.length ≤ 64 := by
  unfold checkT at h
  simp only [Bool.and_eq_true, decide_eq_true_eq] at h
  refine ⟨⟨by omega, by omega, fun c hc => ?_⟩, h.1.2⟩
  have hcan := List.all_eq_true.1 h.2 c hc
  unfold canC at hcan
  split at hcan
  · simp only [Bool.and_eq_true, decide_eq_true_eq] at hcan
    rw [hcan.1.1]
    exact ⟨by simp, by omega, by omega⟩
  · simp only [Bool.and_eq_true, decide_eq_true_eq] at hcan
    rw [hcan.1.2, hcan.2]
    exact ⟨by omega, by simp, by simp⟩
theorem decT_fit (l : List UInt8) : ((decT l).getD zeroK).Ok ∧ ((decT l).getD zeroK).Fit ∧ ((decT l).getD zeroK).cavs.length ≤ 64 ∧ checkT ((decT l).getD zeroK) = true ∧ ((decT l).getD zeroK).cavs.length ≤ 9223372036854775807 := by
  cases hq : decT l with
  | none => exact ⟨zeroK_ok, zero_fit, by decide, rfl, by decide⟩
  | some x =>
    have h := decT_back l x hq
    have h1 := check_fit h.1
    exact ⟨h.2.2, h1.1, h1.2, h.1, h1.1.many⟩
end Go.Proofs.Ythiebbhooigogaa
