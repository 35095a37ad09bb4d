/- LAYER 3: package digest's New, Clone, Len. -/
import Derived.Test.YtefbopgbikmohaaDoorDg
namespace Go.Proofs.YtefbopgbikmohaaDoor
open Go Go.RowKit

/-- The call gave a digest of its own to which l was written; what was there before is as it was. -/
def GaveDig (l : List UInt8) (w : World) (e : Ending) (w' : World) : Prop :=
  ∃ g, e = .returned (.pointer (some ⟨g, 0, none⟩)) ∧ w.heap.size ≤ g ∧ Dgt w' g l ∧ Below w.heap.size w w'
theorem size_dig : (Tryd.prog.info? 63).map (·.size) = some 73 := by kernel_rfl
theorem build_dig (w : World) : (Instr.build 63 #[(0, startV)]).run Tryd.prog w = .ok (.agg (digV S0 (List.replicate 64 0) 0).toArray) w := by kernel_rfl
theorem wpList_build1 {P : Program} {w : World} {ops : Array Oper} {rest : List Oper} {o : Oper} {a : Act} {Q : Exit → Act → World → Prop} (hgd : o.guard = none) (t : TypeId) (x : Operand) (ho : o.op = .build t #[(0, x)])
    (v r : Value) (hx : a.eval x = v) (hrun : (Instr.build t #[(0, v)]).run P w = .ok r w) (h : wpList P ops Q rest (a.put o.dst r) w) : wpList P ops Q (o :: rest) a w := by
  refine wpList_plain hgd fun K hK => ?_
  unfold Oper.wp execOp
  simp only [ho, Sem.run_bind, Sem.run_pure, List.map_toArray, List.map_cons, List.map_nil, hx, hrun, Result.andThen_ok]
  exact hK _ _ h
theorem new_any (w : World) (hT : Tabs w) :
    Calls Tryd.prog 32 #[] w (GaveDig [] w) := by
  have hb := Lib.hid build_dig
  obtain ⟨V, hV⟩ : ∃ V, V = digV S0 (List.replicate 64 0) 0 := ⟨_, rfl⟩
  rw [← hV] at hb
  have HV := Lib.hid hV
  clear hV
  go_enter Tryd.func32, Tryd.ntmps32
  go_wp2_with (first
    | (go_at_call 38; refine (start_any _ hT.sq).mono ?_; rintro e w1 ⟨rfl, hbel⟩)
    | (with_reducible refine wpList_build1 rfl 63 (.tmp 1) rfl startV _ rfl (hb.out _) ?_))
  go_ret
  refine ⟨w1.heap.size, rfl, hbel.size, ⟨Nat.lt_of_lt_of_le hT.cu.size hbel.size, List.replicate 64 0, opn_nil, ?_⟩, hbel.alloc hbel.size _⟩
  have := Row.new w1 63 V
  rw [HV.out] at this ⊢
  exact this
theorem dig_one (s : St) (o : List UInt8) (m : Nat) : ∀ v ∈ digV s o m, v.oneCell' = true := by
  intro v hv
  unfold digV at hv
  rcases List.mem_append.1 hv with h | h
  · exact words_one _ v h
  · rcases List.mem_append.1 h with h | h
    · exact byts_one _ v h
    · rw [List.mem_singleton] at h; subst h; rfl
theorem zero_dig (w : World) : (zeroValue 63).run Tryd.prog w = .ok (.agg (digV ⟨0#32, 0#32, 0#32, 0#32, 0#32, 0#32, 0#32, 0#32⟩ (List.replicate 64 0) 0).toArray) w := by kernel_rfl
theorem clone_any (g : Nat) (l : List UInt8) (w : World) (hd : Dgt w g l) :
    Calls Tryd.prog 26 #[.pointer (some ⟨g, 0, none⟩)] w (GaveDig l w) := by
  obtain ⟨hq, o, ho, hr⟩ := hd
  obtain ⟨V, hV⟩ : ∃ V, V = digV (stK l (l.length / 64)) o l.length := ⟨_, rfl⟩
  rw [← hV] at hr
  have hl : V.length = 73 := by rw [hV, length_digV _ _ _ ho.1]
  have R := Lib.hid (show w.heap[g]? = some (.cells V.toArray 63 (0, 0)) from hr)
  have hsz := Lib.hid (show (Tryd.prog.info? 63).map (·.size) = some V.toArray.size by rw [size_dig, List.size_toArray, hl])
  have h73 := Lib.hid (show 73 = V.toArray.size by rw [List.size_toArray, hl])
  have hone := Lib.hid (all_one (show ∀ v ∈ V, v.oneCell' = true by rw [hV]; exact dig_one _ _ _))
  have HV := Lib.hid hV
  obtain ⟨Z, hZl, hZ⟩ : ∃ Z : Array Value, Z.size = 73 ∧ ∀ w, (zeroValue 63).run Tryd.prog w = .ok (.agg Z) w := ⟨_, by rw [List.size_toArray, length_digV _ _ _ (by simp)], zero_dig⟩
  have HZ := Lib.hid (hZl.trans h73.out)
  have hlt := hr.lt
  clear hV hl hr hZl
  go_enter Tryd.func26, Tryd.ntmps26
  go_wp2_with (first
    | (with_reducible refine wpList_load_row rfl 63 (.tmp 5) rfl g rfl 63 V.toArray (0, 0) _ R.out Tryd.underlying63 rfl hsz.out ?_)
    | (with_reducible refine wpList_store_row rfl 63 (.tmp 3) (.tmp 6) rfl w.heap.size V.toArray rfl rfl 63 _ (heap_alloc_new w _) hsz.out HZ.out hone.out ?_; refine Hid.out ?_))
  refine Lib.hid ?_
  generalize hw1 : World.setRow _ _ _ = w1
  obtain ⟨r1, hb1⟩ := row_new_set (xs := V) hw1
  clear hw1 hZ
  go_wp2
  go_ret
  refine ⟨w.heap.size, rfl, Nat.le_refl _, ⟨Nat.lt_trans hq hlt, o, ho, ?_⟩, hb1⟩
  rw [← HV.out]; exact r1
end Go.Proofs.YtefbopgbikmohaaDoor
