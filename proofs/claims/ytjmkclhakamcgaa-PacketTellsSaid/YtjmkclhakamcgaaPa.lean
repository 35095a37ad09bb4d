/- LAYER 10: packetAlive. -/
import Derived.Test.YtjmkclhakamcgaaPc
namespace Go.Proofs.Ytjmkclhakamcgaa
open Go Go.RowKit

theorem ztokA : (tokV zeroK none 0).toArray = (#[Value.int .u64 0, .string { data := #[] }, .slice none 0 0, .bool false, .int .u8 0, .int .u8 0, .int .u8 0, .int .u8 0, .int .u8 0, .int .u8 0, .int .u8 0, .int .u8 0, .int .u8 0, .int .u8 0, .int .u8 0, .int .u8 0, .int .u8 0, .int .u8 0, .int .u8 0, .int .u8 0, .int .u8 0, .int .u8 0, .int .u8 0, .int .u8 0, .int .u8 0, .int .u8 0, .int .u8 0, .int .u8 0, .int .u8 0, .int .u8 0, .int .u8 0, .int .u8 0, .int .u8 0, .int .u8 0, .int .u8 0, .int .u8 0] : Array Value) := by kernel_rfl
theorem zero_fit : zeroK.Fit := ⟨by decide, by decide, by simp [zeroK]⟩
theorem zero_enc : encT zeroK = bytesT zeroK ∧ errT zeroK = 0 ∧ (bytesT zeroK).length = 42 := by
  have h : checkT zeroK = true := rfl
  refine ⟨if_pos h, if_pos h, by decide⟩
set_option maxRecDepth 20000 in
set_option maxHeartbeats 2000000 in
theorem palive_any (w : World) :
    Calls Try.prog 5 #[] w fun e w' => e = .returned (.bool true) ∧ Below w.heap.size w w' := by
  obtain ⟨Z, hZ⟩ : ∃ Z, Z = bytesT zeroK := ⟨_, rfl⟩
  have hzl := zero_enc.2.2
  have henc := Lib.hid (show ∀ w1, Calls Try.prog 8 #[.agg #[Value.int .u64 0, .string { data := #[] }, .slice none 0 0, .bool false, .int .u8 0, .int .u8 0, .int .u8 0, .int .u8 0, .int .u8 0, .int .u8 0, .int .u8 0, .int .u8 0, .int .u8 0, .int .u8 0, .int .u8 0, .int .u8 0, .int .u8 0, .int .u8 0, .int .u8 0, .int .u8 0, .int .u8 0, .int .u8 0, .int .u8 0, .int .u8 0, .int .u8 0, .int .u8 0, .int .u8 0, .int .u8 0, .int .u8 0, .int .u8 0, .int .u8 0, .int .u8 0, .int .u8 0, .int .u8 0, .int .u8 0, .int .u8 0]] w1 fun e w' => ∃ B d, e = .returned (.tuple #[.slice B 42 d, .int .i64 0]) ∧ Sl w' B d (byts Z) ∧ Below w1.heap.size w1 w' by
    intro w1
    have h := penc_any zeroK zeroK_ok zero_fit none 0 w1 ⟨.inl rfl, Nat.le_refl _, fun _ => rfl⟩
    rw [zero_enc.1, zero_enc.2.1, hzl, ztokA, ← hZ] at h
    exact h)
  have hdec := Lib.hid (show ∀ w1 B d, Sl w1 B d (byts Z) → Calls Try.prog 11 #[.slice B 42 d] w1 fun e w' => ∃ B d, e = .returned (.tuple #[.agg (tokV zeroK B d).toArray, .int .i64 0]) ∧ Sl w' B (d * 5) [] ∧ Below w1.heap.size w1 w' by
    intro w1 B d h
    have h := pdec_any B 42 d Z w1 h (by rw [hZ, hzl]) (by rw [hZ, hzl]; decide)
    rw [hZ, decT_bytesT zeroK zeroK_ok rfl] at h
    exact h)
  have hsame := Lib.hid (show ∀ w1 B d, Sl w1 B (d * 5) [] → Calls Try.prog 17 #[.agg (tokV zeroK B d).toArray, .agg #[Value.int .u64 0, .string { data := #[] }, .slice none 0 0, .bool false, .int .u8 0, .int .u8 0, .int .u8 0, .int .u8 0, .int .u8 0, .int .u8 0, .int .u8 0, .int .u8 0, .int .u8 0, .int .u8 0, .int .u8 0, .int .u8 0, .int .u8 0, .int .u8 0, .int .u8 0, .int .u8 0, .int .u8 0, .int .u8 0, .int .u8 0, .int .u8 0, .int .u8 0, .int .u8 0, .int .u8 0, .int .u8 0, .int .u8 0, .int .u8 0, .int .u8 0, .int .u8 0, .int .u8 0, .int .u8 0, .int .u8 0, .int .u8 0]] w1 fun e w' => e = .returned (.bool true) ∧ Below w1.heap.size w1 w' by
    intro w1 B d h
    have h := psame_any zeroK zeroK zeroK_ok zeroK_ok B d none 0 w1 h ⟨.inl rfl, Nat.le_refl _, fun _ => rfl⟩ (by decide)
    rw [decide_eq_true rfl, ztokA] at h
    exact h)
  clear hZ hzl
  go_enter Try.func5, Try.ntmps5
  go_wp2_with (first
    | (go_at_call 8; refine (henc.out _).mono ?_; rintro e w1 ⟨B1, d1, rfl, hsl1, hb1⟩)
    | (go_at_call 11; refine (hdec.out _ _ _ hsl1).mono ?_; rintro e w2 ⟨B2, d2, rfl, hsl2, hb2⟩; have hbw2 := hb1.trans (hb2.mono hb1.size); have hV := length_tokV zeroK_ok B2 d2; have hone := Lib.hid (all_one (tokV_one zeroK B2 d2)); have hs := Lib.hid (hsame.out · B2 d2); obtain ⟨V, hVq⟩ : ∃ V, V = tokV zeroK B2 d2 := ⟨_, rfl⟩; rw [← hVq] at hV hone hs ⊢; have hz1 := Lib.hid (show (Try.prog.info? 27).map (·.size) = some V.toArray.size by rw [size_tok, List.size_toArray, hV]); have h36 := Lib.hid (show 36 = V.toArray.size by rw [List.size_toArray, hV]); clear hV hVq hb1 hsl1)
    | (with_reducible refine wpList_store_row rfl 27 (.tmp 3) (.tmp 13) rfl w2.heap.size V.toArray rfl rfl 27 _ (heap_alloc_new w2 _) hz1.out (Eq.trans (by kernel_rfl) h36.out) hone.out ?_; refine Hid.out ?_))
  refine Lib.hid ?_
  generalize hw3 : World.setRow _ _ _ = w3
  obtain ⟨r3, hb3⟩ := row_new_set (xs := V) hw3
  have R3 := Lib.hid (show w3.heap[w2.heap.size]? = some (.cells V.toArray 27 (0, 0)) from r3)
  have hbw3 := hbw2.trans (hb3.mono hbw2.size)
  have hsl3 := hsl2.later (Nat.le_refl _) hb3
  clear hw3 r3 hb3 hbw2 hsl2
  go_wp2_with (first
    | (refine wpList_step fun K hK => ?_; refine step_load_mid (some 27) rfl (by rfl) 27 (.tmp 3) rfl w2.heap.size 0 rfl V _ (row_range R3.out) Try.underlying27 rfl (Eq.trans hz1.out (by rw [List.size_toArray])) ?_; refine hK _ _ ?_)
    | (go_at_call 17; refine (hs.out _ hsl3).mono ?_; rintro e w4 ⟨rfl, hb4⟩; have hbw4 := hbw3.trans (hb4.mono hbw3.size)))
  go_ret
  exact ⟨rfl, hbw4⟩
end Go.Proofs.Ytjmkclhakamcgaa
