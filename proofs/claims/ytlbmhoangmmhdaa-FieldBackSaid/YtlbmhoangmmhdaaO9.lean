/- AN ARGUMENT THAT IS A SLICE OF FIELDS (a kind, and bytes), opened, its strings' sizes out of the row's reach. -/
import Derived.Test.YtlbmhoangmmhdaaK
import Derived.Test.YtlbmhoangmmhdaaFl
import Derived.Test.YtlbmhoangmmhdaaO6
import Derived.Deep.SlicePairs
namespace Go.Proofs.Ytlbmhoangmmhdaa
open Go.ChangeShapes Go.WideShapes Go.ChangeAt Go.RowKit

theorem cells_fd : Try.prog.cellsOf 30 = 2 := by kernel_rfl
theorem cells_by : Try.prog.cellsOf 5 = 1 := by kernel_rfl
theorem weights_fds {H : Type} (D0 D1 : Nat → DataW H) (is : List Nat) (i : Nat) (h : i ∈ is) (s : List UInt8) (hs : D1 i = .lit (.string s)) :
    s.length ∈ DataW.weightsAll Try.prog 30 (is.map fun i => DataW.agg [D0 i, D1 i]) := by
  induction is with
  | nil => cases h
  | cons q is ih =>
    show _ ∈ DataW.weights Try.prog 30 (.agg [D0 q, D1 q]) ++ DataW.weightsAll Try.prog _ (is.map _)
    rcases List.mem_cons.1 h with rfl | h
    · refine List.mem_append_left _ ?_
      simp only [DataW.weights, Try.underlying30]
      rw [hs]
      simp [DataW.weightsEach, DataW.weights]
    · exact List.mem_append_right _ (ih h)
/-- An argument that is a slice of fields. -/
theorem open_fdSlice {H : Type} {enc : TypeId × Value → H} {W : World} {held : Bool} {b1 : Nat} {a : Option Addr} {len cap : Nat} {d : DataW H} {p : List MemPlace} {ts : List TypeId} {ds : List (DataW H)}
    (h : DataW.Trod enc Try.prog W b1 (fun _ => true) held 23 (.slice a len cap) d p) (hsz : (DataW.weightsEach Try.prog ts ds).all (· ≤ reachBytes) = true) {j : Nat} (ht : ts[j]? = some 23) (hd : ds[j]? = some d) :
    ∃ fs : List Fd, len = fs.length ∧ Sl W a (cap * 2) (fs.flatMap fdV) ∧ fs.length ≤ 9223372036854775807 ∧ ∀ f ∈ fs, f.2.length ≤ 140737488351232 := by
  obtain ⟨fuel, hf⟩ := h
  rcases Deep.open_slice_pairs Try.underlying23 Try.underlying30 cells_fd rfl rfl cells_by cells_str hf with ⟨hcs, _⟩ | ⟨x, l, c, m, n, V0, V1, D0, D1, P0, P1, hcs, _, hl, hm, hmm, hx, hel⟩
  · simp [Value.cells] at hcs
    obtain ⟨rfl, rfl, rfl⟩ := hcs
    exact ⟨[], rfl, ⟨.inl rfl, by simp, fun _ => rfl⟩, by simp, fun l hl => by cases hl⟩
  · simp [Value.cells] at hcs
    obtain ⟨rfl, rfl, rfl⟩ := hcs
    simp only [Prod.mk.injEq] at hx
    obtain ⟨rfl, _⟩ := hx
    have hmc : m = cap := by simpa using hmm
    unfold maxLen at hm
    have each : ∀ i, i < m → ∃ q : UInt8 × ByteArray, W.cell? (x.add (i * 2)) = some (.int .u8 (q.1.toNat : Int)) ∧ W.cell? (x.add (i * 2 + 1)) = some (.string q.2) ∧ D1 i = .lit (.string q.2.data.toList) := by
      intro i hi
      obtain ⟨h0, h1, h2, h3⟩ := hel i hi
      obtain ⟨z, hz, _, hwf⟩ := DataW.trod_int Try.underlying5 h2
      obtain ⟨s, hs, hs2, _⟩ := DataW.trod_string Try.underlying9 h3
      have hb := bounds_u8 hwf
      refine ⟨(UInt8.ofNat z.toNat, s), ?_, ?_, ?_⟩
      · rw [h0]
        have : V0 i = .int .u8 z := by simpa using hz
        rw [this, UInt8.toNat_ofNat']
        congr 2
        omega
      · rw [h1]
        have : V1 i = .string s := by simpa using hs
        rw [this]
      · simp only [Prod.mk.injEq] at hs2
        exact hs2.1
    obtain ⟨Q, hQ⟩ := Deep.choose_lt each
    have hlen : ((List.range len).map fun i => ((Q i).1, (Q i).2.data.toList) : List Fd).length = len := by simp
    refine ⟨(List.range len).map fun i => ((Q i).1, (Q i).2.data.toList), hlen.symm, ⟨?_, by rw [length_fdsV, hlen]; omega, fun h => by cases h⟩, by rw [hlen]; omega, fun f hf => ?_⟩
    · by_cases h0 : len = 0
      · subst h0; exact .inl rfl
      · obtain ⟨b, off, spot⟩ := x
        have hc0 := (hQ 0 (by omega)).1
        have hspot : spot = none := by simpa [Addr.add] using World.cell?_spot hc0
        subst hspot
        refine .inr ⟨b, off, rfl, ?_, fun i hi => ?_⟩
        · have := World.block_lt_of_cell? W _ hc0
          rw [Addr.add_lit] at this; exact this
        · rw [length_fdsV, hlen] at hi
          have hi2 : i / 2 < len := by omega
          have hk := hQ (i / 2) (by omega)
          rw [Addr.add_lit, Addr.add_lit] at hk
          have hfl := flat_at fdV 2 ((List.range len).map fun i => ((Q i).1, (Q i).2.data.toList)) (fun _ _ => rfl) (i / 2) ((Q (i / 2)).1, (Q (i / 2)).2.data.toList) (by simp [hi2]) (i % 2) (by omega)
          rw [show i / 2 * 2 + i % 2 = i by omega] at hfl
          rw [hfl]
          by_cases hr : i % 2 = 0
          · rw [hr, show off + i = off + i / 2 * 2 by omega, hk.1]; rfl
          · rw [show i % 2 = 1 by omega, show off + i = off + (i / 2 * 2 + 1) by omega, hk.2.1]
            show _ = some (Value.string (bstr (Q (i / 2)).2.data.toList))
            rw [bstr_data]
    · obtain ⟨i, hi, rfl⟩ := List.mem_map.1 hf
      have hir := List.mem_range.1 hi
      have hw := weights_fds D0 D1 (List.range len) i hi _ (hQ i (by omega)).2.2
      have h1 : (Q i).2.data.toList.length ≤ reachBytes := of_decide_eq_true (List.all_eq_true.1 hsz _ (DataW.weights_mem_each ht hd (Q i).2.data.toList.length (by
        simp only [DataW.weights, Try.underlying23]
        exact List.mem_cons_of_mem _ (List.mem_append_left _ hw))))
      unfold reachBytes at h1
      exact h1
end Go.Proofs.Ytlbmhoangmmhdaa
