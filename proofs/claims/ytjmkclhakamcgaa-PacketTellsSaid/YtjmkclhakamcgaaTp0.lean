/- LAYER 10, PacketTells: what the four walks share. -/
import Derived.Test.YtjmkclhakamcgaaPa
import Derived.Test.YtjmkclhakamcgaaSm
import Derived.Test.YtjmkclhakamcgaaDc
namespace Go.Proofs.Ytjmkclhakamcgaa
open Go Go.RowKit

theorem decT_okc (l : List UInt8) : ((decT l).getD zeroK).Ok ∧ ((decT l).getD zeroK).cavs.length ≤ 64 := by
  cases hq : decT l with
  | none => exact ⟨zeroK_ok, by decide⟩
  | some x =>
    have h := decT_back l x hq
    have h1 := h.1
    unfold checkT at h1
    simp only [Bool.and_eq_true, decide_eq_true_eq] at h1
    exact ⟨h.2.2, h1.1.2⟩
theorem cap_mem : ∀ (cs : List Cav) (c : Cav), c ∈ cs → capC c ≤ (cs.map capC).sum
  | [], _, h => by cases h
  | d :: cs, c, h => by
    rw [List.map_cons, List.sum_cons]
    rcases List.mem_cons.1 h with rfl | h
    · omega
    · have := cap_mem cs c h; omega
theorem cavs_bound (t : Tok) (ht : t.Ok) (g : ¬ 10000 < capT t) : t.cavs.length ≤ 1000000 ∧ ∀ c ∈ t.cavs, c.party < 18446744073709551616 ∧ capC c ≤ 100000 ∧ (joinL (cavF c)).length ≤ 1000000 := by
  have h1 := capT_len t.cavs
  unfold capT at g
  refine ⟨by omega, fun c hc => ?_⟩
  have h2 := cap_mem t.cavs c hc
  have h3 : capC c ≤ 100000 := by omega
  refine ⟨ht.party c hc, h3, ?_⟩
  have h4 := cavF_len c
  have h5 := fieldsL_len 100000 (cavF c) (fun f hf => ?_)
  · have : (cavF c).length * (100000 + 11) ≤ 3 * (100000 + 11) := Nat.mul_le_mul_right _ h4
    omega
  · unfold capC at h3
    have hv := length_varL c.party
    unfold cavF at hf
    split at hf
    · simp only [List.mem_cons, List.not_mem_nil, or_false] at hf
      rcases hf with rfl | rfl | rfl
      · show (varL c.party).length ≤ 100000; omega
      · show c.id.length ≤ 100000; omega
      · show c.vault.length ≤ 100000; omega
    · rw [List.mem_singleton.1 hf]
      show c.text.length ≤ 100000; omega
end Go.Proofs.Ytjmkclhakamcgaa
