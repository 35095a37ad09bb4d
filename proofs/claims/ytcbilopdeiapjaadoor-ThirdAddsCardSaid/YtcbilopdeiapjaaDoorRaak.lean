/- Texts of this claim, one behind the other. -/
import Derived.Test.YtcbilopdeiapjaaDoorRaaj
import Derived.Test.YtcbilopdeiapjaaDoorRaad
import Derived.Test.YtcbilopdeiapjaaDoorRaah
import Derived.Test.YtcbilopdeiapjaaDoorRaai
import Derived.Test.YtcbilopdeiapjaaDoorRaac
import Derived.Deep.DeepCutAuto
import Derived.Test.YtcbilopdeiapjaaDoorRaab
/- LAYER 7: package seal's Seal and Open. -/
namespace Go.Proofs.YtcbilopdeiapjaaDoor
set_option maxRecDepth 100000
open Go Go.RowKit

set_option maxRecDepth 100000 in
set_option maxHeartbeats 2000000 in
theorem dseal_any (key nonce : List UInt8) (hk : key.length = 32) (hn : nonce.length = 32) (p : List UInt8) (hs : p.length ≤ 100000) (w : World) (hT : Tabs w) :
    Calls Tryd.prog 29 #[.agg (byts key).toArray, .agg (byts nonce).toArray, .string (bstr p)] w fun e w' => e = .returned (.string (bstr (sealL key nonce p))) ∧ Below w.heap.size w w' := by
  obtain ⟨K, hK⟩ : ∃ K, K = byts key := ⟨_, rfl⟩
  have hKl : K.length = 32 := by rw [hK, length_byts]; exact hk
  have hszK := Lib.hid (show (Tryd.prog.info? 25).map (·.size) = some K.toArray.size by rw [size_tag, List.size_toArray, hKl])
  obtain ⟨M, hM⟩ : ∃ M, M = byts nonce := ⟨_, rfl⟩
  have HM := Lib.hid hM
  have hMl : M.length = 32 := by rw [hM, length_byts]; exact hn
  have hszM := Lib.hid (show (Tryd.prog.info? 25).map (·.size) = some M.toArray.size by rw [size_tag, List.size_toArray, hMl])
  obtain ⟨C, hC⟩ : ∃ C, C = turnL key nonce p := ⟨_, rfl⟩
  have hCl : C.length = p.length := by rw [hC]; exact length_turnL _ _ _
  have htu := Lib.hid (show ∀ w1, Tabs w1 → Calls Tryd.prog 38 #[.agg K.toArray, .agg M.toArray, .string (bstr p)] w1 fun e w' => e = .returned (.string (bstr C)) ∧ Below w1.heap.size w1 w' by
    rw [hK, hM, hC]; exact fun w1 hT => dturned_any key nonce hk hn p (by omega) w1 hT)
  obtain ⟨O, hO⟩ : ∃ O, O = tagOver key nonce C := ⟨_, rfl⟩
  obtain ⟨V, hV⟩ : ∃ V, V = byts O := ⟨_, rfl⟩
  have hOl : O.length = 32 := by rw [hO]; exact length_tagOver _ _ _
  have hVl : V.length = 32 := by rw [hV, length_byts]; exact hOl
  have hone := Lib.hid (all_one (show ∀ v ∈ V, v.oneCell' = true by rw [hV]; exact byts_one _))
  have hszl := Lib.hid (show (Tryd.prog.info? 25).map (·.size) = some V.toArray.size by rw [size_tag, List.size_toArray, hVl])
  have h32 := Lib.hid (show 32 = V.toArray.size by rw [List.size_toArray, hVl])
  have hmk := Lib.hid (show ∀ w1, Tabs w1 → Calls Tryd.prog 36 #[.agg K.toArray, .agg M.toArray, .string (bstr C)] w1 fun e w' => e = .returned (.agg V.toArray) ∧ Below w1.heap.size w1 w' by
    rw [hK, hM, hV, hO]; exact fun w1 hT => dmark_any key nonce hk hn C (by omega) w1 hT)
  have HA := Lib.hid (show bstr nonce ++ bstr C ++ bstr O = bstr (sealL key nonce p) by
    rw [bstr_append, bstr_append, hO, hC]; rfl)
  have HV := Lib.hid hV
  have HN := Lib.hid hn
  have HOl := Lib.hid hOl
  have hc1 := Lib.hid (show ¬ 9223372036854775807 < (bstr nonce).size + (bstr C).size by rw [size_bstr, size_bstr, hn, hCl]; omega)
  have hc2 := Lib.hid (show ¬ 9223372036854775807 < (bstr nonce).size + (bstr C).size + (bstr O).size by rw [size_bstr, size_bstr, size_bstr, hn, hCl, hOl]; omega)
  obtain ⟨r0, r1, hb0, _⟩ := two_rows (w := w) (A := K) (B := M) (tA := 25) (tB := 25) rfl
  have R0 := Lib.hid (show ((w.alloc (.cells K.toArray 25)).alloc (.cells M.toArray 25)).heap[w.heap.size]? = some (.cells K.toArray 25 (0, 0)) from r0)
  have R1 := Lib.hid (show ((w.alloc (.cells K.toArray 25)).alloc (.cells M.toArray 25)).heap[w.heap.size + 1]? = some (.cells M.toArray 25 (0, 0)) from r1)
  have hT0 := hT.later hb0 (Nat.le_refl _)
  rw [← hK, ← hM]
  clear hK hKl hM hMl hk hn hC hCl hV hVl hO hOl
  go_enter Tryd.func29, Tryd.ntmps29
  go_wp2_with (first
    | (with_reducible refine wpList_load_row rfl 25 (.tmp 3) rfl w.heap.size rfl 25 K.toArray (0, 0) (.array 32 5) R0.out Tryd.underlying25 rfl hszK.out ?_)
    | (with_reducible refine wpList_load_row rfl 25 (.tmp 4) rfl (w.heap.size + 1) rfl 25 M.toArray (0, 0) (.array 32 5) R1.out Tryd.underlying25 rfl hszM.out ?_)
    | (go_at_call 38; refine (htu.out _ hT0).mono ?_; rintro e w1 ⟨rfl, hb1⟩; have r0 := r0.later hb1 r0.lt; have r1 := r1.later hb1 r1.lt; have hbw1 := hb0.trans (hb1.mono hb0.size); have hT1 := hT.later hbw1 (Nat.le_refl _); have R0 := Lib.hid (show w1.heap[w.heap.size]? = some (.cells K.toArray 25 (0, 0)) from r0); have R1 := Lib.hid (show w1.heap[w.heap.size + 1]? = some (.cells M.toArray 25 (0, 0)) from r1); clear hb1 hb0)
    | (go_at_call 36; refine (hmk.out _ hT1).mono ?_; rintro e w2 ⟨rfl, hb2⟩; have r1 := r1.later hb2 r1.lt; have hbw2 := hbw1.trans (hb2.mono hbw1.size); clear hb2 hbw1)
    | (with_reducible refine wpList_store_row rfl 25 (.tmp 8) (.tmp 16) rfl w2.heap.size V.toArray rfl rfl 25 _ (heap_alloc_new w2 _) hszl.out (Eq.trans (by kernel_rfl) h32.out) hone.out ?_; refine Hid.out ?_))
  refine Lib.hid ?_
  generalize hw3 : World.setRow _ _ _ = w3
  obtain ⟨r3, hb3⟩ := row_new_set (xs := V) hw3
  have r1 := r1.later hb3 r1.lt
  have hbw3 := hbw2.trans (hb3.mono hbw2.size)
  clear hw3 hb3 hbw2
  generalize w2.heap.size = g at *
  have hslN : Sl w3 (some ⟨w.heap.size + 1, 0, none⟩) 32 (byts nonce) := ⟨Rd.row (ys := []) (by rw [List.append_nil, ← HM.out]; exact r1), by rw [length_byts, HN.out]; exact Nat.le_refl _, fun h => by cases h⟩
  have hslO : Sl w3 (some ⟨g, 0, none⟩) 32 (byts O) := ⟨Rd.row (ys := []) (by rw [List.append_nil, ← HV.out]; exact r3), by rw [length_byts, HOl.out]; exact Nat.le_refl _, fun h => by cases h⟩
  have hcN := conv_later hslN 32 HN.out.symm
  have hcO := conv_later hslO 32 HOl.out.symm
  clear hslN hslO r3 r1 r0
  have hc1 := hc1.out
  have hc2 := hc2.out
  go_wp2_with fail
  refine wp_region_noPanic ?_
  refine wp_region_held_drew (S := fun w' => Below w3.heap.size w3 w') (by kernel_rfl) ((Below.refl _ _).drew) (fun hHeld => ?_)
  refine rt 0 17 hHeld ?_
  refine rt 1 18 hHeld ?_
  refine rt 2 19 hHeld ?_
  refine rt 3 20 hHeld ?_
  refine rt 4 21 hHeld ?_
  refine rt 5 22 hHeld ?_
  refine rt 6 23 hHeld ?_
  refine rt 7 6 hHeld ?_
  refine wpAnyH_done (by kernel_rfl) ?_ _
  refine NoPanic.normal ?_
  clear hcN hcO hHeld
  go_wp2
  go_ret
  exact ⟨by show Ending.returned (.string (bstr nonce ++ bstr C ++ bstr O)) = _; rw [HA.out], hbw3.drew⟩
end Go.Proofs.YtcbilopdeiapjaaDoor

/- LAYER 20: the document's Lock, Hide. -/
namespace Go.Proofs.YtcbilopdeiapjaaDoor
set_option maxRecDepth 100000
open Go Go.RowKit

/-- An array in a block of its own, as a slice. -/
theorem sl_arr {w : World} {g : Nat} {l : List UInt8} (h : Row w g 25 (byts l)) (hl : l.length = 32) : Sl w (some ⟨g, 0, none⟩) 32 (byts l) :=
  ⟨Rd.row (ys := []) (by rw [List.append_nil]; exact h), by rw [length_byts, hl]; exact Nat.le_refl _, fun h => by cases h⟩
set_option maxHeartbeats 4000000 in
theorem rlock_any (key nonce root cond : List UInt8) (hk : key.length = 32) (hn : nonce.length = 32) (hr : root.length = 32) (hc : cond.length ≤ 10000) (w : World) :
    Calls Tryd.prog 15 #[.agg (byts key).toArray, .agg (byts nonce).toArray, .agg (byts root).toArray, .string (bstr cond)] w fun e w' => e = .returned (.string (bstr (lockL key nonce root cond))) ∧ Below w.heap.size w w' := by
  have hkz := Lib.hid (show (Tryd.prog.info? 25).map (·.size) = some (byts key).length by rw [tag_fit key hk]; exact size_tag)
  have hnz := Lib.hid (show (Tryd.prog.info? 25).map (·.size) = some (byts nonce).length by rw [tag_fit nonce hn]; exact size_tag)
  have HA := Lib.hid (show bstr root ++ bstr cond = bstr (root ++ cond) from bstr_append _ _)
  have hsz := Lib.hid (show ¬ 9223372036854775807 < (bstr root).size + (bstr cond).size by rw [size_bstr, size_bstr, hr]; omega)
  have hky := Lib.hid (fun w' => rkey_any key hk partyU none 0 0 [] w' ⟨.inl rfl, Nat.le_refl _, fun _ => rfl⟩ rfl (by show (5 + 1) + 0 ≤ _; decide))
  have hse := Lib.hid (fun w' => rseal_any (keyD key partyU []) nonce (length_keyD _ _ _) hn (root ++ cond) (by rw [List.length_append, hr]; omega) w')
  rw [show sealL (keyD key partyU []) nonce (root ++ cond) = lockL key nonce root cond from rfl] at hse
  generalize keyD key partyU [] = kd at *
  generalize lockL key nonce root cond = LK at *
  clear hk hn hc
  go_enter Tryd.func15, Tryd.ntmps15
  go_upto_region 1 with fail
  generalize hw1 : World.alloc (World.alloc (World.alloc _ _) _) _ = w1
  obtain ⟨r1, r2, r3, hb1, -⟩ := rows3 hw1
  clear hw1
  have hcv := conv_later (sl_arr r3 hr) 32 hr.symm
  clear hr
  refine wp_region_noPanic ?_
  refine wp_region_held_drew (S := fun w' => Below w1.heap.size w1 w') (by kernel_rfl) ((Below.refl _ _).drew) (fun hHeld => ?_)
  have hB : Below w1.heap.size w1 w1.drew := (Below.refl _ _).drew
  refine rt 0 9 hHeld ?_ (hy := by intro w hS; exact run_load_op 25 (.tmp 4) rfl _ 0 rfl (byts key) _ (row_range (r1.later hS r1.lt)) Tryd.underlying25 rfl hkz.out)
  refine rt 2 11 hHeld ?_ (hy := by intro w hS; exact run_load_op 25 (.tmp 5) rfl _ 0 rfl (byts nonce) _ (row_range (r2.later hS r2.lt)) Tryd.underlying25 rfl hnz.out)
  refine rt 3 12 hHeld ?_
  refine rt 4 13 hHeld ?_ (hy := by intro w hS; have h1 := hcv w hS; go_simp; try with_reducible rfl)
  refine rt 5 14 hHeld ?_
  refine rt 6 15 hHeld ?_ (hy := by intro w hS; have h1 := hsz.out; have h2 := HA.out; go_simp; try with_reducible rfl)
  refine rc1 1 fun K hK => ?_
  go_simp
  refine (hky.out _).mono ?_; rintro e ww11 ⟨rfl, hqw11⟩
  try go_wp2_with fail
  refine hK.out _ _ (hHeld.trans (hqw11.mono hHeld.size)) (fun hHeld => ?_)
  clear hK K
  have hB := below_step hB hqw11
  have hB1 : Below ww11.heap.size ww11 ww11 := Below.refl _ _
  refine rc1 7 fun K hK => ?_
  go_simp
  refine (hse.out _).mono ?_; rintro e ww17 ⟨rfl, hqw17⟩
  try go_wp2_with fail
  refine hK.out _ _ (hHeld.trans (hqw17.mono hHeld.size)) (fun hHeld => ?_)
  clear hK K
  have hB := below_step hB hqw17
  have hB1 := below_step hB1 hqw17
  have hB7 : Below ww17.heap.size ww17 ww17 := Below.refl _ _
  refine rt 8 8 hHeld ?_
  refine wpAnyH_done (by kernel_rfl) ?_ _
  refine NoPanic.normal ?_
  have hbz := hb1.trans (hB.mono hb1.size)
  clear hB hHeld
  go_wp2_with fail
  go_ret
  exact ⟨rfl, hbz⟩
set_option maxHeartbeats 4000000 in
theorem rhide_any (key nonce root : List UInt8) (hk : key.length = 32) (hn : nonce.length = 32) (hr : root.length = 32) (w : World) :
    Calls Tryd.prog 17 #[.agg (byts key).toArray, .agg (byts nonce).toArray, .agg (byts root).toArray] w fun e w' => e = .returned (.string (bstr (hideL key nonce root))) ∧ Below w.heap.size w w' := by
  have hkz := Lib.hid (show (Tryd.prog.info? 25).map (·.size) = some (byts key).length by rw [tag_fit key hk]; exact size_tag)
  have hnz := Lib.hid (show (Tryd.prog.info? 25).map (·.size) = some (byts nonce).length by rw [tag_fit nonce hn]; exact size_tag)
  have hky := Lib.hid (fun w' => rkey_any key hk vaultU none 0 0 [] w' ⟨.inl rfl, Nat.le_refl _, fun _ => rfl⟩ rfl (by show (5 + 1) + 0 ≤ _; decide))
  have hse := Lib.hid (fun w' => rseal_any (keyD key vaultU []) nonce (length_keyD _ _ _) hn root (by omega) w')
  rw [show sealL (keyD key vaultU []) nonce root = hideL key nonce root from rfl] at hse
  generalize keyD key vaultU [] = kd at *
  generalize hideL key nonce root = LK at *
  clear hk hn
  go_enter Tryd.func17, Tryd.ntmps17
  go_upto_region 1 with fail
  generalize hw1 : World.alloc (World.alloc (World.alloc _ _) _) _ = w1
  obtain ⟨r1, r2, r3, hb1, -⟩ := rows3 hw1
  clear hw1
  have hcv := conv_later (sl_arr r3 hr) 32 hr.symm
  clear hr
  refine wp_region_noPanic ?_
  refine wp_region_held_drew (S := fun w' => Below w1.heap.size w1 w') (by kernel_rfl) ((Below.refl _ _).drew) (fun hHeld => ?_)
  have hB : Below w1.heap.size w1 w1.drew := (Below.refl _ _).drew
  refine rt 0 7 hHeld ?_ (hy := by intro w hS; exact run_load_op 25 (.tmp 3) rfl _ 0 rfl (byts key) _ (row_range (r1.later hS r1.lt)) Tryd.underlying25 rfl hkz.out)
  refine rt 2 9 hHeld ?_ (hy := by intro w hS; exact run_load_op 25 (.tmp 4) rfl _ 0 rfl (byts nonce) _ (row_range (r2.later hS r2.lt)) Tryd.underlying25 rfl hnz.out)
  refine rt 3 10 hHeld ?_
  refine rt 4 11 hHeld ?_ (hy := by intro w hS; have h1 := hcv w hS; go_simp; try with_reducible rfl)
  refine rc1 1 fun K hK => ?_
  go_simp
  refine (hky.out _).mono ?_; rintro e ww11 ⟨rfl, hqw11⟩
  try go_wp2_with fail
  refine hK.out _ _ (hHeld.trans (hqw11.mono hHeld.size)) (fun hHeld => ?_)
  clear hK K
  have hB := below_step hB hqw11
  have hB1 : Below ww11.heap.size ww11 ww11 := Below.refl _ _
  refine rc1 5 fun K hK => ?_
  go_simp
  refine (hse.out _).mono ?_; rintro e ww15 ⟨rfl, hqw15⟩
  try go_wp2_with fail
  refine hK.out _ _ (hHeld.trans (hqw15.mono hHeld.size)) (fun hHeld => ?_)
  clear hK K
  have hB := below_step hB hqw15
  have hB1 := below_step hB1 hqw15
  have hB5 : Below ww15.heap.size ww15 ww15 := Below.refl _ _
  refine rt 6 6 hHeld ?_
  refine wpAnyH_done (by kernel_rfl) ?_ _
  refine NoPanic.normal ?_
  have hbz := hb1.trans (hB.mono hb1.size)
  clear hB hHeld
  go_wp2_with fail
  go_ret
  exact ⟨rfl, hbz⟩
end Go.Proofs.YtcbilopdeiapjaaDoor

/- LAYER 10: the document's bytes of a token. -/
namespace Go.Proofs.YtcbilopdeiapjaaDoor
set_option maxRecDepth 100000
open Go Go.RowKit

theorem tok_tag {w : World} {g : Nat} {t : Tok} {A : Option Addr} {c : Nat} (ht : t.Ok) (h : Row w g 27 (tokV t A c)) : Sl w (some ⟨g, 4, none⟩) 32 (byts t.tag) := by
  refine ⟨.inr ⟨g, 4, rfl, h.lt, fun i hi => ?_⟩, by rw [length_byts, ht.tag]; exact Nat.le_refl _, fun h => by cases h⟩
  rw [h.cell]
  unfold tokV
  rw [List.getElem?_append_right (by show 4 ≤ 4 + i; omega)]
  show (byts t.tag)[4 + i - 4]? = _
  rw [Nat.add_sub_cancel_left]
theorem cavF_len (c : Cav) : (cavF c).length ≤ 3 := by unfold cavF; split <;> simp
theorem fieldsL_len (n : Nat) : ∀ (fs : List Fd), (∀ f ∈ fs, f.2.length ≤ n) → (joinL fs).length ≤ fs.length * (n + 11)
  | [], _ => by simp [joinL]
  | f :: fs, h => by
    have h1 := fieldsL_len n fs (fun g hg => h g (List.mem_cons_of_mem _ hg))
    have h2 := h f List.mem_cons_self
    have h3 := length_fieldL f
    have h4 := length_varL f.2.length
    have e : joinL (f :: fs) = fieldL f ++ joinL fs := by unfold joinL; rw [List.flatMap_cons]
    rw [e, List.length_append, List.length_cons, Nat.succ_mul]; omega
end Go.Proofs.YtcbilopdeiapjaaDoor

/- LAYER 10: what a Decode's walk shares. -/
namespace Go.Proofs.YtcbilopdeiapjaaDoor
set_option maxRecDepth 100000
open Go Go.RowKit

theorem infoCav : (Tryd.prog.info? 48).map (fun i => (i.zero, i.size, i.bytes)) = some (some (.agg (cavV ⟨false, [], 0, [], []⟩).toArray), 5, 64) := by kernel_rfl
theorem info_cav : ∃ i, Tryd.prog.info? 48 = some i ∧ i.zero = some (.agg (cavV ⟨false, [], 0, [], []⟩).toArray) ∧ i.size = 5 ∧ i.bytes = 64 := by
  have h := infoCav
  cases hq : Tryd.prog.info? 48 with
  | none => rw [hq] at h; cases h
  | some i =>
    rw [hq] at h
    simp only [Option.map_some, Option.some.injEq, Prod.mk.injEq] at h
    exact ⟨i, rfl, h.1, h.2.1, h.2.2⟩
theorem Row.kept {w w' : World} {g t : Nat} {xs : List Value} {row : Option Nat} (h : Row w g t xs) (hg : w.grownBy w' row) (hne : ∀ k, row = some k → g ≠ k) : Row w' g t xs := by
  have hl := h.lt
  unfold Row at h ⊢
  rw [hg.block g hl (fun e => hne g e.symm rfl)]; exact h
section
variable {wL w : World} {g : Nat} {t : Tok} {A : Option Addr} {c : Nat}
end
theorem ztok : tokV zeroK none 0 = [Value.int .u64 0, .string { data := #[] }, .slice none 0 0, .bool false, .int .u8 0, .int .u8 0, .int .u8 0, .int .u8 0, .int .u8 0, .int .u8 0, .int .u8 0, .int .u8 0, .int .u8 0, .int .u8 0, .int .u8 0, .int .u8 0, .int .u8 0, .int .u8 0, .int .u8 0, .int .u8 0, .int .u8 0, .int .u8 0, .int .u8 0, .int .u8 0, .int .u8 0, .int .u8 0, .int .u8 0, .int .u8 0, .int .u8 0, .int .u8 0, .int .u8 0, .int .u8 0, .int .u8 0, .int .u8 0, .int .u8 0, .int .u8 0] := by kernel_rfl
end Go.Proofs.YtcbilopdeiapjaaDoor

/- LAYER 19: the document's Mint; a call that answers a token and a number. -/
namespace Go.Proofs.YtcbilopdeiapjaaDoor
set_option maxRecDepth 100000
open Go Go.RowKit

/-- The call gave a token and a number, and nothing that was there has turned. -/
def GaveTok (u : Tok) (n : Int) (w : World) (e : Ending) (w' : World) : Prop :=
  ∃ (A : Option Addr) (c : Nat), e = .returned (.tuple #[.agg (tokV u A c).toArray, .int .i64 n]) ∧ Sl w' A (c * 5) (u.cavs.flatMap cavV) ∧ (∀ a, A = some a → w.heap.size ≤ a.block) ∧ Below w.heap.size w w'
theorem sl_zeroK (w : World) : Sl w none (0 * 5) (zeroK.cavs.flatMap cavV) := ⟨.inl rfl, Nat.le_refl _, fun _ => rfl⟩
end Go.Proofs.YtcbilopdeiapjaaDoor

/- LAYER 19: the document's Add. -/
namespace Go.Proofs.YtcbilopdeiapjaaDoor
set_option maxRecDepth 100000
open Go Go.RowKit

theorem slice_zeroC (w : World) : (Instr.buildSlice 23 0 #[]).run Tryd.prog w = .ok (.slice (some ⟨w.heap.size, 0, none⟩) 0 0) (w.alloc (.cells #[] 48)) := by go_simp
theorem slice_oneC (c : Cav) (w : World) : (Instr.buildSlice 23 1 #[(0, .agg (cavV c).toArray)]).run Tryd.prog w = .ok (.slice (some ⟨w.heap.size, 0, none⟩) 1 1) (w.alloc (.cells (cavV c).toArray 48)) := by unfold cavV; go_simp
section
variable {w : World} {ops : Array Oper} {o : Oper} {a : Act} {K : Act → World → Prop} {Q : Exit → Act → World → Prop} {E : Prop}
theorem step_zeroC (dst : Option Tmp) (hdst : o.dst = dst) (hgd : Region.wanted o (yielded ops a.tmps) = true) (hrun : (execOp a.eval o).run Tryd.prog w = .ok (.value (.slice (some ⟨w.heap.size, 0, none⟩) 0 0)) (w.alloc (.cells #[] 48)))
    (h : ∀ b w', w'.ownsRow w.heap.size 48 5 (.slice (some ⟨b, 0, none⟩) 0 0) 0 [] → b < w'.heap.size → w.heap.size ≤ b → Below w.heap.size w w' → K (a.put dst (.slice (some ⟨b, 0, none⟩) 0 0)) w') : if Region.wanted o (yielded ops a.tmps) = true then Oper.wp Tryd.prog o a w K Q else E := by
  subst hdst
  rw [if_pos hgd]
  unfold Oper.wp
  rw [hrun]
  exact h _ _ (World.ownsRow_lit w (e := 48) (size := 5) #[] 0 (Nat.le_refl _) (by unfold maxLen; omega) rfl) (by rw [World.size_alloc]; omega) (Nat.le_refl _) ((Below.refl _ w).alloc (Nat.le_refl _) _)
theorem step_oneC (dst : Option Tmp) (hdst : o.dst = dst) (hgd : Region.wanted o (yielded ops a.tmps) = true) (c : Cav) (hrun : (execOp a.eval o).run Tryd.prog w = .ok (.value (.slice (some ⟨w.heap.size, 0, none⟩) 1 1)) (w.alloc (.cells (cavV c).toArray 48)))
    (h : ∀ b w', Sl w' (some ⟨b, 0, none⟩) (1 * 5) (cavV c) → b < w'.heap.size → w.heap.size ≤ b → Below w.heap.size w w' → K (a.put dst (.slice (some ⟨b, 0, none⟩) 1 1)) w') : if Region.wanted o (yielded ops a.tmps) = true then Oper.wp Tryd.prog o a w K Q else E := by
  subst hdst
  rw [if_pos hgd]
  unfold Oper.wp
  rw [hrun]
  have hr := Row.new w 48 (cavV c)
  exact h _ _ ⟨Rd.row (ys := []) (by rw [List.append_nil]; exact hr), Nat.le_refl _, fun h => by cases h⟩ (by rw [World.size_alloc]; omega) (Nat.le_refl _) ((Below.refl _ w).alloc (Nat.le_refl _) _)
theorem step_set19 (dst : Option Tmp) (hdst : o.dst = dst) (hgd : Region.wanted o (yielded ops a.tmps) = true) (g i : Nat) (v : Value) (hrun : (execOp a.eval o).run Tryd.prog w = .ok .skip (w.setCell ⟨g, i, none⟩ v))
    (h : ∀ w', w' = w.setCell ⟨g, i, none⟩ v → w.grownBy w' (some g) → K (a.put dst undef) w') : if Region.wanted o (yielded ops a.tmps) = true then Oper.wp Tryd.prog o a w K Q else E := by
  subst hdst
  rw [if_pos hgd]
  unfold Oper.wp
  rw [hrun]
  exact h _ rfl (grown_setCell _ _ _ _)
end
theorem wpList_store_mid {P : Program} {ops : Array Oper} {rest : List Oper} {o : Oper} {a : Act} {w : World} {Q : Exit → Act → World → Prop} (hgd : o.guard = none) (ty : TypeId) (x y : Operand) (ho : o.op = .store ty x y)
    (g off : Nat) (t : TypeId) (cur cs : List Value) (hx : a.eval x = .pointer (some ⟨g, off, none⟩)) (hy : a.eval y = .agg cs.toArray) (hr : Row w g t cur) (hfit : off + cs.length ≤ cur.length) (hi : (P.info? ty).map (·.size) = some cs.length) (h1 : ∀ v ∈ cs, v.oneCell' = true)
    (h : ∀ w', Row w' g t (splice cur off cs) → w.grownBy w' (some g) → wpList P ops Q rest (a.put o.dst undef) w') : wpList P ops Q (o :: rest) a w := by
  refine wpList_plain hgd fun _ hK => ?_
  unfold Oper.wp execOp
  simp only [ho, hx, hy, run_store_row ty g off t cur cs hr hfit hi h1, Sem.run_bind, Sem.run_pure, Result.andThen_ok]
  exact hK _ _ (h _ (hr.setRow _) (grown_setRow _ _ _))
theorem tok_tag_range {w : World} {g : Nat} {u : TypeId} {t : Tok} {A : Option Addr} {c : Nat} (h : Row w g u (tokV t A c)) : w.rangeAt g 4 (byts t.tag) :=
  range_of_row (A := tokH t A c) (B := byts t.tag) (C := []) (by rw [List.append_nil]; exact h)
theorem tok_put_tag (t : Tok) (A : Option Addr) (c : Nat) (g : List UInt8) (ht : t.Ok) (hg : g.length = 32) : splice (tokV t A c) 4 (byts g) = tokV { t with tag := g } A c := by
  unfold splice tokV
  rw [show (tokH t A c ++ byts t.tag).take 4 = tokH t A c from rfl, length_byts, hg, List.drop_eq_nil_of_le (by rw [List.length_append, length_byts, ht.tag]; exact Nat.le_refl _), List.append_nil]; rfl
theorem own_base19 {w : World} {b b' t k n : Nat} {v : Value} {xs : List Value} (h : w.ownsRow b t k v n xs) (hb : b' ≤ b) : w.ownsRow b' t k v n xs := by
  obtain ⟨hl, h | ⟨g, cap, cur, rfl, hg, h⟩⟩ := h
  · exact ⟨hl, .inl h⟩
  · exact ⟨hl, .inr ⟨g, cap, cur, rfl, Nat.le_trans hb hg, h⟩⟩
theorem cavV_one1 (c : Cav) : ∀ v ∈ cavV c, v.oneCell' = true := fun v hv => cavV_one [c] v (by simpa using hv)
theorem tok_more (t : Tok) (cv : Cav) (A B : Option Addr) (c d : Nat) : (tokV t A c).set 2 (.slice B (t.cavs.length + 1) d) = tokV { t with cavs := t.cavs ++ [cv] } B d := by
  unfold tokV tokH
  rw [show ({ t with cavs := t.cavs ++ [cv] } : Tok).cavs.length = t.cavs.length + 1 by simp]; rfl
theorem s6flat {w : World} {B : Option Addr} {d : Nat} {t : Tok} {cv : Cav} (h : Sl w B (d * 5) (t.cavs.flatMap cavV ++ cavV cv)) : Sl w B (d * 5) (({ t with cavs := t.cavs ++ [cv] } : Tok).cavs.flatMap cavV) := by
  show Sl w B (d * 5) ((t.cavs ++ [cv]).flatMap cavV)
  rw [List.flatMap_append, List.flatMap_cons, List.flatMap_nil, List.append_nil]; exact h
set_option maxHeartbeats 8000000 in
theorem radd_any (t : Tok) (ht : t.Ok) (cv : Cav) (hp : cv.party < 18446744073709551616) (hcb : (capB cv).length ≤ 1000000) (hm : t.cavs.length ≤ 1000000) (A : Option Addr) (c : Nat) (w : World) (hs : Sl w A (c * 5) (t.cavs.flatMap cavV)) :
    Calls Tryd.prog 21 #[.agg (tokV t A c).toArray, .agg (cavV cv).toArray] w (GaveTok (addT t cv) (errAdd t cv) w) := by
  obtain ⟨i0, hi, hz0, hsz0, hby0⟩ := info_cav
  obtain ⟨Z, hZ⟩ : ∃ Z, Z = tokV zeroK none 0 := ⟨_, rfl⟩
  have hZl : Z.length = 36 := by rw [hZ]; exact length_tokV zeroK_ok none 0
  have hZe := Lib.hid (hZ.trans ztok)
  have hzZ := Lib.hid (show (Tryd.prog.info? 27).map (·.size) = some Z.toArray.size by rw [List.size_toArray, hZl]; exact size_tok)
  have hZ1 := Lib.hid (show Z.toArray.all (·.oneCell') = true by rw [hZ, List.all_toArray, List.all_eq_true]; exact tokV_one _ _ _)
  obtain ⟨X, hX⟩ : ∃ X, X = tokV t A c := ⟨_, rfl⟩
  have hXl : X.length = 36 := by rw [hX]; exact length_tokV ht A c
  have hzX := Lib.hid (show (Tryd.prog.info? 27).map (·.size) = some X.length by rw [hXl]; exact size_tok)
  have hzX2 := Lib.hid (show (Tryd.prog.info? 27).map (·.size) = some X.toArray.size by rw [List.size_toArray, hXl]; exact size_tok)
  have h36 := Lib.hid (show 36 = X.toArray.size by rw [List.size_toArray, hXl])
  have hX1 := Lib.hid (show X.toArray.all (·.oneCell') = true by rw [hX, List.all_toArray, List.all_eq_true]; exact tokV_one _ _ _)
  obtain ⟨w1, hw1⟩ : ∃ w1, w1 = ((w.alloc (.cells X.toArray 27)).alloc (.cells (cavV cv).toArray 48)).alloc (.cells Z.toArray 27) := ⟨_, rfl⟩
  obtain ⟨r1, r2, r3, hb1, hs1⟩ := rows3 hw1.symm
  have HW := Lib.hid (hw1.trans (by rw [hZe.out]))
  have ts := hs.later (Nat.le_refl _) hb1
  have hc3 : w1.cell? ⟨w.heap.size, 3, none⟩ = some (.bool t.bound) := by rw [r1.cell, hX]; rfl
  have HZ := Lib.hid hZ
  have HX := Lib.hid hX
  rw [← hX]
  clear hw1 hZ hX hs
  have Q3 := Lib.hid (show w1.heap[w.heap.size + 1 + 1]? = some (.cells Z.toArray 27 (0, 0)) from r3)
  have tok1 : True := trivial
  cases hbd : t.bound with
  | true =>
    have HE := Lib.hid (show errAdd t cv = 6 by unfold errAdd; rw [if_pos hbd])
    have HG := Lib.hid (show addT t cv = zeroK by unfold addT; rw [HE.out]; rfl)
    rw [hbd] at hc3
    clear r1 r2 r3 ts hXl hZl
    generalize addT t cv = U at *
    generalize errAdd t cv = er at *
    go_enter Tryd.func21, Tryd.ntmps21
    go_wp2_with (first
      | (have _t := tok1; rw [← HW.out]; clear tok1)
      | (have _t := Q3; refine wpList_store_row rfl 27 (.tmp 4) (.tmp 9) rfl (w.heap.size + 1 + 1) Z.toArray rfl (by rw [hZe.out]; rfl) 27 Z.toArray Q3.out hzZ.out rfl hZ1.out ?_; refine Hid.out ?_))
    refine Lib.hid ?_
    generalize hw8 : World.setRow _ _ _ = w8
    obtain ⟨r8, hg8⟩ := row_set (show Row w1 (w.heap.size + 1 + 1) 27 Z from Q3.out) hw8
    have hb8 := hb1.grown hg8 hb1.size (fun k h => by cases h; omega)
    have R8 := Lib.hid (show w8.heap[w.heap.size + 1 + 1]? = some (.cells Z.toArray 27 (0, 0)) from r8)
    clear hw8 r8 Q3
    go_wp2_with fail
    exact ⟨rfl, _, results_row_tmp rfl _ _ (w.heap.size + 1 + 1) 27 Z.toArray (0, 0) _ rfl R8.out Tryd.underlying27 rfl hzZ.out _ rfl, none, 0, by rw [HE.out, HG.out, HZ.out]; rfl, by rw [HG.out]; exact sl_zeroK _, (fun a h => by cases h), hb8⟩
  | false =>
    rw [hbd] at hc3
    have R1 := Lib.hid (show w1.heap[w.heap.size]? = some (.cells X.toArray 27 (0, 0)) from r1)
    have Hnx := Lib.hid (rnext_any t.tag ht.tag cv hp hcb)
    have hZX := Lib.hid (show Z.toArray.size = X.toArray.size by rw [List.size_toArray, List.size_toArray, hZl, hXl])
    have n1 : 0 + t.cavs.length ≤ maxLen := by unfold maxLen; omega
    have n2 : (0 + t.cavs.length) * 64 ≤ 140737488355328 := by omega
    have m1 : t.cavs.length + 1 ≤ maxLen := by unfold maxLen; omega
    have m2 : (t.cavs.length + 1) * 64 ≤ 140737488355328 := by omega
    have HS1 := Lib.hid hs1
    clear hs1
    go_enter Tryd.func21, Tryd.ntmps21
    go_wp2_with (first
      | (have _t := tok1; rw [← HW.out]; clear tok1)
      | (with_reducible refine wpList_load_row rfl 27 (.tmp 2) rfl w.heap.size rfl 27 X.toArray (0, 0) _ R1.out Tryd.underlying27 rfl hzX2.out ?_)
      | (refine wpList_store_row rfl 27 (.tmp 6) (.tmp 10) rfl w1.heap.size X.toArray rfl rfl 27 _ (heap_alloc_new _ _) hzX2.out h36.out hX1.out ?_; refine Hid.out ?_))
    refine Lib.hid ?_
    generalize hw2 : World.setRow _ _ _ = w2
    have hw2' : (w1.alloc (.cells Z.toArray 27)).setRow w1.heap.size X.toArray = w2 := by rw [hZe.out]; exact hw2
    obtain ⟨r6, hg6⟩ := row_set (Row.new w1 27 Z) hw2'
    have hba := (Below.refl _ w1).alloc (Nat.le_refl _) (.cells Z.toArray 27)
    have hb12 := hba.grown hg6 hba.size (fun k h => by cases h; exact Nat.le_refl _)
    have r1 := r1.later hb12 r1.lt
    have r2 := r2.later hb12 r2.lt
    have r3 := r3.later hb12 r3.lt
    have ts := ts.later (Nat.le_refl _) hb12
    have hbw := hb1.trans (hb12.mono hb1.size)
    have hs1 := HS1.out
    clear hw2 hw2' hg6 hba hb12 hb1 R1 HW hc3 Q3 HS1
    generalize hG0 : w.heap.size = g0 at r1 r2 r3 hs1 hbw ⊢
    generalize hG6 : w1.heap.size = g6 at r6 hs1 ⊢
    have hlt6 : g0 + 2 < g6 := by omega
    clear hs1
    go_upto_region 4 with fail
    go_cut [6] (fun p6 wx => p6 = .pointer (some ⟨g6, 0, none⟩) ∧ ∃ B d, Row wx g6 27 (tokV { t with cavs := t.cavs ++ [cv] } B d) ∧ Sl wx B (d * 5) (({ t with cavs := t.cavs ++ [cv] } : Tok).cavs.flatMap cavV) ∧ (∀ a, B = some a → g6 < a.block) ∧ Row wx g0 27 X ∧ Row wx (g0 + 1) 48 (cavV cv) ∧ Row wx (g0 + 1 + 1) 27 Z ∧ Below g0 w wx)
    case first =>
      refine wp_region_noPanic ?_
      refine wp_region_held_drew (S := fun w' => Row w' g0 27 X ∧ Row w' (g0 + 1) 48 (cavV cv)) (by kernel_rfl) (⟨r1.later ((Below.refl _ _).drew) r1.lt, r2.later ((Below.refl _ _).drew) r2.lt⟩) (fun hHeld => ?_)
      have hB : Below w2.heap.size w2 w2.drew := (Below.refl _ _).drew
      refine rt 1 12 hHeld ?_
      refine rt 2 13 hHeld ?_ (hy := by intro w hS; have hc : w.cell? ⟨g0, 2, none⟩ = some (.slice A t.cavs.length c) := by { rw [hS.1.cell, HX.out]; rfl }; go_simp; try with_reducible rfl)
      refine rt 4 15 hHeld ?_ (hy := by intro w hS; exact run_load_op 48 (.tmp 3) rfl _ 0 rfl (cavV cv) _ (row_range hS.2) Tryd.underlying48 rfl size_cav)
      refine rc2 0 5 (fun K hK => ?_) fun K hK => ?_
      · refine step_zeroC (some 11) rfl (by rfl) (by have hss := slice_zeroC w2.drew; go_simp) ?_; intro b0 ww20 own0 h0lt h0ge hqw20; have own0 := own_base19 own0 (show w2.heap.size ≤ _ from hB.size)
        refine rk hK ⟨hHeld.1.later hqw20 hHeld.1.lt, hHeld.2.later hqw20 hHeld.2.lt⟩ fun hHeld => ?_
        clear hK K
        have hB := below_step hB hqw20
        have hB0 : Below ww20.heap.size ww20 ww20 := Below.refl _ _
        refine rc2 3 5 (fun K hK => ?_) fun K hK => ?_
        · have ownA := ownk_later own0 hB0 (Nat.le_refl _); refine step_append_k (some 14) rfl (by rfl) (.tmp 11) (.tmp 13) 23 rfl w2.heap.size 48 i0 _ 5 64 Tryd.underlying23 hi hz0 hsz0 (by omega) hby0 rfl _ 0 [] rfl ownA A t.cavs.length c (t.cavs.flatMap cavV) rfl (length_cavsV _) (ts.later (Nat.le_refl _) hB) (cavV_one _) n1 n2 hB.size ?_; intro v3 ww23 own3 hg3; rw [Nat.zero_add, List.nil_append] at own3; have hqw23 := (Below.refl w2.heap.size _).grown hg3 hB.size (fun j hj => (ownA.lt j hj).1); try (have s5 := Sl.apart (s5.later (Nat.le_refl _) hB5) (show World.grownBy _ _ (some b0) from hg3) (fun hx a ha => by cases ha; show b5 ≠ b0; omega))
          refine rk hK ⟨Row.kept hHeld.1 hg3 (fun k hk e => by have := (ownA.lt k hk).1; have := r1.lt; have := r2.lt; omega), Row.kept hHeld.2 hg3 (fun k hk e => by have := (ownA.lt k hk).1; have := r1.lt; have := r2.lt; omega)⟩ fun hHeld => ?_
          clear hK K
          have hB := hB.trans hqw23
          clear hB0
          have hB3 : Below ww23.heap.size ww23 ww23 := Below.refl _ _
          refine rc1 5 fun K hK => ?_
          refine step_oneC (some 16) rfl (by rfl) cv (by unfold cavV; go_simp) ?_; intro b5 ww25 s5 h5lt h5ge hqw25
          refine rk hK ⟨hHeld.1.later hqw25 hHeld.1.lt, hHeld.2.later hqw25 hHeld.2.lt⟩ fun hHeld => ?_
          clear hK K
          have hB := below_step hB hqw25
          have hB3 := below_step hB3 hqw25
          have hB5 : Below ww25.heap.size ww25 ww25 := Below.refl _ _
          refine rc1 6 fun K hK => ?_
          have ownB := ownk_later own3 hB3 (Nat.le_refl _); refine step_append_k (some 17) rfl (by rfl) (.tmp 14) (.tmp 16) 23 rfl w2.heap.size 48 i0 _ 5 64 Tryd.underlying23 hi hz0 hsz0 (by omega) hby0 rfl _ t.cavs.length (t.cavs.flatMap cavV) rfl ownB (some ⟨b5, 0, none⟩) 1 1 (cavV cv) rfl rfl (by first | exact s5 | exact s5.later (Nat.le_refl _) hB5) (cavV_one1 cv) m1 m2 hB.size ?_; intro v6 ww26 own6 hg6; have hqw26 := (Below.refl w2.heap.size _).grown hg6 hB.size (fun j hj => (ownB.lt j hj).1); have lt6 := own6.lt; obtain ⟨B, d, rfl, -, s6⟩ := Sl.of_ownk own6
          refine rk hK ⟨Row.kept hHeld.1 hg6 (fun k hk e => by have := (ownB.lt k hk).1; have := r1.lt; have := r2.lt; omega), Row.kept hHeld.2 hg6 (fun k hk e => by have := (ownB.lt k hk).1; have := r1.lt; have := r2.lt; omega)⟩ fun hHeld => ?_
          clear hK K
          have hB := hB.trans hqw26
          clear hB3 hB5
          have hB6 : Below ww26.heap.size ww26 ww26 := Below.refl _ _
          refine rt 7 18 hHeld ?_
          refine rc1 8 fun K hK => ?_
          have q6 := r6.later hB r6.lt; have q3 := r3.later hB r3.lt; have hcc : World.cell? _ ⟨g6, 2, none⟩ = some (.slice A t.cavs.length c) := (by rw [q6.cell, HX.out]; rfl); have hff := q6.free 2; refine step_set19 none rfl (by rfl) g6 2 (.slice B (t.cavs.length + 1) d) (by go_simp) ?_; intro wf hwf hgf; have rf := q6.set 2 (.slice B (t.cavs.length + 1) d); rw [← hwf] at rf; have s6 := Sl.apart s6 hgf (fun hx a ha => by have := (lt6 a.block (by rw [ha]; rfl)).1; have := r6.lt; omega); have q3 := q3.grown hgf (by omega); have hBf := (hbw.trans (hB.mono (Nat.le_of_lt r1.lt))).grown hgf (Nat.le_trans (Nat.le_of_lt r1.lt) hB.size) (fun k h => by cases h; omega); clear hwf
          refine hK.out _ _ ⟨hHeld.1.grown hgf (by omega), hHeld.2.grown hgf (by omega)⟩ (fun hHeld => ?_)
          clear hK K
          rw [put_none]
          refine wpAnyH_done (by kernel_rfl) ?_ _
          refine NoPanic.normal ?_
          go_wp2_with fail
          go_meet
          case rel => exact ⟨rfl, B, d, (tok_more t cv A B c d) ▸ (HX.out ▸ rf), s6flat s6, (fun a ha => by have := (lt6 a.block (by rw [ha]; rfl)).1; have := r6.lt; omega), hHeld.1, hHeld.2, q3, hBf⟩
        · refine step_oneC (some 16) rfl (by rfl) cv (by unfold cavV; go_simp) ?_; intro b5 ww25 s5 h5lt h5ge hqw25
          refine rk hK ⟨hHeld.1.later hqw25 hHeld.1.lt, hHeld.2.later hqw25 hHeld.2.lt⟩ fun hHeld => ?_
          clear hK K
          have hB := below_step hB hqw25
          have hB0 := below_step hB0 hqw25
          have hB5 : Below ww25.heap.size ww25 ww25 := Below.refl _ _
          refine rc1 3 fun K hK => ?_
          have ownA := ownk_later own0 hB0 (Nat.le_refl _); refine step_append_k (some 14) rfl (by rfl) (.tmp 11) (.tmp 13) 23 rfl w2.heap.size 48 i0 _ 5 64 Tryd.underlying23 hi hz0 hsz0 (by omega) hby0 rfl _ 0 [] rfl ownA A t.cavs.length c (t.cavs.flatMap cavV) rfl (length_cavsV _) (ts.later (Nat.le_refl _) hB) (cavV_one _) n1 n2 hB.size ?_; intro v3 ww23 own3 hg3; rw [Nat.zero_add, List.nil_append] at own3; have hqw23 := (Below.refl w2.heap.size _).grown hg3 hB.size (fun j hj => (ownA.lt j hj).1); try (have s5 := Sl.apart (s5.later (Nat.le_refl _) hB5) (show World.grownBy _ _ (some b0) from hg3) (fun hx a ha => by cases ha; show b5 ≠ b0; omega))
          refine rk hK ⟨Row.kept hHeld.1 hg3 (fun k hk e => by have := (ownA.lt k hk).1; have := r1.lt; have := r2.lt; omega), Row.kept hHeld.2 hg3 (fun k hk e => by have := (ownA.lt k hk).1; have := r1.lt; have := r2.lt; omega)⟩ fun hHeld => ?_
          clear hK K
          have hB := hB.trans hqw23
          clear hB0 hB5
          have hB3 : Below ww23.heap.size ww23 ww23 := Below.refl _ _
          refine rc1 6 fun K hK => ?_
          have ownB := ownk_later own3 hB3 (Nat.le_refl _); refine step_append_k (some 17) rfl (by rfl) (.tmp 14) (.tmp 16) 23 rfl w2.heap.size 48 i0 _ 5 64 Tryd.underlying23 hi hz0 hsz0 (by omega) hby0 rfl _ t.cavs.length (t.cavs.flatMap cavV) rfl ownB (some ⟨b5, 0, none⟩) 1 1 (cavV cv) rfl rfl (by first | exact s5 | exact s5.later (Nat.le_refl _) hB5) (cavV_one1 cv) m1 m2 hB.size ?_; intro v6 ww26 own6 hg6; have hqw26 := (Below.refl w2.heap.size _).grown hg6 hB.size (fun j hj => (ownB.lt j hj).1); have lt6 := own6.lt; obtain ⟨B, d, rfl, -, s6⟩ := Sl.of_ownk own6
          refine rk hK ⟨Row.kept hHeld.1 hg6 (fun k hk e => by have := (ownB.lt k hk).1; have := r1.lt; have := r2.lt; omega), Row.kept hHeld.2 hg6 (fun k hk e => by have := (ownB.lt k hk).1; have := r1.lt; have := r2.lt; omega)⟩ fun hHeld => ?_
          clear hK K
          have hB := hB.trans hqw26
          clear hB3
          have hB6 : Below ww26.heap.size ww26 ww26 := Below.refl _ _
          refine rt 7 18 hHeld ?_
          refine rc1 8 fun K hK => ?_
          have q6 := r6.later hB r6.lt; have q3 := r3.later hB r3.lt; have hcc : World.cell? _ ⟨g6, 2, none⟩ = some (.slice A t.cavs.length c) := (by rw [q6.cell, HX.out]; rfl); have hff := q6.free 2; refine step_set19 none rfl (by rfl) g6 2 (.slice B (t.cavs.length + 1) d) (by go_simp) ?_; intro wf hwf hgf; have rf := q6.set 2 (.slice B (t.cavs.length + 1) d); rw [← hwf] at rf; have s6 := Sl.apart s6 hgf (fun hx a ha => by have := (lt6 a.block (by rw [ha]; rfl)).1; have := r6.lt; omega); have q3 := q3.grown hgf (by omega); have hBf := (hbw.trans (hB.mono (Nat.le_of_lt r1.lt))).grown hgf (Nat.le_trans (Nat.le_of_lt r1.lt) hB.size) (fun k h => by cases h; omega); clear hwf
          refine hK.out _ _ ⟨hHeld.1.grown hgf (by omega), hHeld.2.grown hgf (by omega)⟩ (fun hHeld => ?_)
          clear hK K
          rw [put_none]
          refine wpAnyH_done (by kernel_rfl) ?_ _
          refine NoPanic.normal ?_
          go_wp2_with fail
          go_meet
          case rel => exact ⟨rfl, B, d, (tok_more t cv A B c d) ▸ (HX.out ▸ rf), s6flat s6, (fun a ha => by have := (lt6 a.block (by rw [ha]; rfl)).1; have := r6.lt; omega), hHeld.1, hHeld.2, q3, hBf⟩
      · refine step_oneC (some 16) rfl (by rfl) cv (by unfold cavV; go_simp) ?_; intro b5 ww25 s5 h5lt h5ge hqw25
        refine rk hK ⟨hHeld.1.later hqw25 hHeld.1.lt, hHeld.2.later hqw25 hHeld.2.lt⟩ fun hHeld => ?_
        clear hK K
        have hB := below_step hB hqw25
        have hB5 : Below ww25.heap.size ww25 ww25 := Below.refl _ _
        refine rc1 0 fun K hK => ?_
        refine step_zeroC (some 11) rfl (by rfl) (by have hss := slice_zeroC ww25; go_simp) ?_; intro b0 ww20 own0 h0lt h0ge hqw20; have own0 := own_base19 own0 (show w2.heap.size ≤ _ from hB.size)
        refine rk hK ⟨hHeld.1.later hqw20 hHeld.1.lt, hHeld.2.later hqw20 hHeld.2.lt⟩ fun hHeld => ?_
        clear hK K
        have hB := below_step hB hqw20
        have hB5 := below_step hB5 hqw20
        have hB0 : Below ww20.heap.size ww20 ww20 := Below.refl _ _
        refine rc1 3 fun K hK => ?_
        have ownA := ownk_later own0 hB0 (Nat.le_refl _); refine step_append_k (some 14) rfl (by rfl) (.tmp 11) (.tmp 13) 23 rfl w2.heap.size 48 i0 _ 5 64 Tryd.underlying23 hi hz0 hsz0 (by omega) hby0 rfl _ 0 [] rfl ownA A t.cavs.length c (t.cavs.flatMap cavV) rfl (length_cavsV _) (ts.later (Nat.le_refl _) hB) (cavV_one _) n1 n2 hB.size ?_; intro v3 ww23 own3 hg3; rw [Nat.zero_add, List.nil_append] at own3; have hqw23 := (Below.refl w2.heap.size _).grown hg3 hB.size (fun j hj => (ownA.lt j hj).1); try (have s5 := Sl.apart (s5.later (Nat.le_refl _) hB5) (show World.grownBy _ _ (some b0) from hg3) (fun hx a ha => by cases ha; show b5 ≠ b0; omega))
        refine rk hK ⟨Row.kept hHeld.1 hg3 (fun k hk e => by have := (ownA.lt k hk).1; have := r1.lt; have := r2.lt; omega), Row.kept hHeld.2 hg3 (fun k hk e => by have := (ownA.lt k hk).1; have := r1.lt; have := r2.lt; omega)⟩ fun hHeld => ?_
        clear hK K
        have hB := hB.trans hqw23
        clear hB5 hB0
        have hB3 : Below ww23.heap.size ww23 ww23 := Below.refl _ _
        refine rc1 6 fun K hK => ?_
        have ownB := ownk_later own3 hB3 (Nat.le_refl _); refine step_append_k (some 17) rfl (by rfl) (.tmp 14) (.tmp 16) 23 rfl w2.heap.size 48 i0 _ 5 64 Tryd.underlying23 hi hz0 hsz0 (by omega) hby0 rfl _ t.cavs.length (t.cavs.flatMap cavV) rfl ownB (some ⟨b5, 0, none⟩) 1 1 (cavV cv) rfl rfl (by first | exact s5 | exact s5.later (Nat.le_refl _) hB5) (cavV_one1 cv) m1 m2 hB.size ?_; intro v6 ww26 own6 hg6; have hqw26 := (Below.refl w2.heap.size _).grown hg6 hB.size (fun j hj => (ownB.lt j hj).1); have lt6 := own6.lt; obtain ⟨B, d, rfl, -, s6⟩ := Sl.of_ownk own6
        refine rk hK ⟨Row.kept hHeld.1 hg6 (fun k hk e => by have := (ownB.lt k hk).1; have := r1.lt; have := r2.lt; omega), Row.kept hHeld.2 hg6 (fun k hk e => by have := (ownB.lt k hk).1; have := r1.lt; have := r2.lt; omega)⟩ fun hHeld => ?_
        clear hK K
        have hB := hB.trans hqw26
        clear hB3
        have hB6 : Below ww26.heap.size ww26 ww26 := Below.refl _ _
        refine rt 7 18 hHeld ?_
        refine rc1 8 fun K hK => ?_
        have q6 := r6.later hB r6.lt; have q3 := r3.later hB r3.lt; have hcc : World.cell? _ ⟨g6, 2, none⟩ = some (.slice A t.cavs.length c) := (by rw [q6.cell, HX.out]; rfl); have hff := q6.free 2; refine step_set19 none rfl (by rfl) g6 2 (.slice B (t.cavs.length + 1) d) (by go_simp) ?_; intro wf hwf hgf; have rf := q6.set 2 (.slice B (t.cavs.length + 1) d); rw [← hwf] at rf; have s6 := Sl.apart s6 hgf (fun hx a ha => by have := (lt6 a.block (by rw [ha]; rfl)).1; have := r6.lt; omega); have q3 := q3.grown hgf (by omega); have hBf := (hbw.trans (hB.mono (Nat.le_of_lt r1.lt))).grown hgf (Nat.le_trans (Nat.le_of_lt r1.lt) hB.size) (fun k h => by cases h; omega); clear hwf
        refine hK.out _ _ ⟨hHeld.1.grown hgf (by omega), hHeld.2.grown hgf (by omega)⟩ (fun hHeld => ?_)
        clear hK K
        rw [put_none]
        refine wpAnyH_done (by kernel_rfl) ?_ _
        refine NoPanic.normal ?_
        go_wp2_with fail
        go_meet
        case rel => exact ⟨rfl, B, d, (tok_more t cv A B c d) ▸ (HX.out ▸ rf), s6flat s6, (fun a ha => by have := (lt6 a.block (by rw [ha]; rfl)).1; have := r6.lt; omega), hHeld.1, hHeld.2, q3, hBf⟩
    case rest =>
      clear r6 r1 r2 r3 ts hbw
      obtain ⟨rfl, B, d, r6, s6, hap, r1, r2, r3, hB⟩ := hcut
      subst hG0
      clear hG6 w2
      have hnl := tag_fit _ (length_nextT t.tag cv)
      have hmo : (moreT t cv).Ok := moreT_ok ht hp
      have hto : ({ t with cavs := t.cavs ++ [cv] } : Tok).Ok := ⟨hmo.key, hmo.party, ht.tag⟩
      obtain ⟨V, hV⟩ : ∃ V, V = tokV (moreT t cv) B d := ⟨_, rfl⟩
      have hVl : V.length = 36 := by rw [hV]; exact length_tokV hmo B d
      have hput := Lib.hid (show splice (tokV { t with cavs := t.cavs ++ [cv] } B d) 4 (byts (nextT t.tag cv)) = V by rw [hV]; exact tok_put_tag _ B d _ hto (length_nextT _ _))
      have hck := Lib.hid (show ∀ w', Sl w' B (d * 5) ((moreT t cv).cavs.flatMap cavV) → Calls Tryd.prog 20 #[.agg V.toArray] w' fun e w'' => e = .returned (.bool (checkT (moreT t cv))) ∧ Below w'.heap.size w' w'' by rw [hV]; exact fun w' h => rcheck_any _ B d w' h)
      have hzV := Lib.hid (show (Tryd.prog.info? 27).map (·.size) = some V.toArray.size by rw [List.size_toArray, hVl]; exact size_tok)
      have hV1 := Lib.hid (show V.toArray.all (·.oneCell') = true by rw [hV, List.all_toArray, List.all_eq_true]; exact tokV_one _ _ _)
      have hVZ := Lib.hid (show Z.toArray.size = V.toArray.size by rw [List.size_toArray, List.size_toArray, hVl, hZl])
      have HV := Lib.hid hV
      have K1 := Lib.hid (tok_tag_range (HX.out ▸ r1))
      have hkz := Lib.hid (show (Tryd.prog.info? 25).map (·.size) = some (byts t.tag).length by rw [size_tag, tag_fit _ ht.tag])
      have hnz := Lib.hid (show (Tryd.prog.info? 25).map (·.size) = some (byts (nextT t.tag cv)).length by rw [size_tag, hnl])
      have hone := Lib.hid (byts_one (nextT t.tag cv))
      have hfit := Lib.hid (show 4 + (byts (nextT t.tag cv)).length ≤ (tokV { t with cavs := t.cavs ++ [cv] } B d).length by rw [hnl, length_tokV hto B d]; exact Nat.le_refl _)
      have K2 := Lib.hid (row_range r2)
      have hsc := Lib.hid (show (Tryd.prog.info? 48).map (·.size) = some (cavV cv).length from size_cav)
      have hmore : (moreT t cv).cavs.flatMap cavV = ({ t with cavs := t.cavs ++ [cv] } : Tok).cavs.flatMap cavV := rfl
      rw [← hmore] at s6
      clear hnl hto hV hVl hmore r1 r2 hXl hZl
      have HE := Lib.hid (show errAdd t cv = if checkT (moreT t cv) = true then 0 else 1 by unfold errAdd; rw [if_neg (by rw [hbd]; decide)])
      have HG := Lib.hid (show addT t cv = if errAdd t cv = 0 then moreT t cv else zeroK from rfl)
      generalize tokV { t with cavs := t.cavs ++ [cv] } B d = Y at *
      generalize addT t cv = U at *
      generalize errAdd t cv = er at *
      generalize nextT t.tag cv = nx at *
      generalize hM : moreT t cv = M at *
      generalize hcb2 : checkT M = ok at *
      have hwc := Lib.hid hB
      go_wp2_with (first
        | (with_reducible refine wpList_load_mid rfl 25 (.tmp 19) rfl w.heap.size 4 rfl (byts t.tag) _ K1.out Tryd.underlying25 rfl hkz.out ?_)
        | (with_reducible refine wpList_load_mid rfl 48 (.tmp 3) rfl (w.heap.size + 1) 0 rfl (cavV cv) _ K2.out Tryd.underlying48 rfl hsc.out ?_)
        | (go_at_call 35; refine (Hnx.out _).mono ?_; rintro e w4 ⟨rfl, hb4⟩; have r6 := r6.later hb4 r6.lt; have s6 := s6.later (Nat.le_refl _) hb4; have r3 := r3.later hb4 r3.lt; have hB := hB.trans (hb4.mono hB.size))
        | (have _t := w4; refine wpList_store_mid rfl 25 (.tmp 23) (.tmp 22) rfl g6 4 27 Y (byts nx) rfl rfl r6 hfit.out hnz.out hone.out ?_; intro w5 r6x hg5; refine Hid.out ?_))
      refine Lib.hid ?_
      have r6 : Row w5 g6 27 V := by rw [hput.out] at r6x; exact r6x
      have s6 := s6.apart hg5 (fun _ a ha => by have := hap a ha; omega)
      have r3 := r3.grown hg5 (by omega)
      have hB := hB.grown hg5 hB.size (fun k h => by cases h; omega)
      have K6 := Lib.hid (show w5.heap[g6]? = some (.cells V.toArray 27 (0, 0)) from r6)
      clear r6x hg5 K1 K2 hput hfit hone hnz Hnx hkz hsc hmo hwc
      cases ok
      · have e1 : er = 1 := HE.out.trans (if_neg (by decide))
        have e2 : U = zeroK := by rw [HG.out, e1]; rfl
        have E1 := Lib.hid e1
        have E2 := Lib.hid e2
        clear e1 e2 HE HG
        go_wp2_with (first
          | (with_reducible refine wpList_load_row rfl 27 (.tmp 6) rfl g6 rfl 27 V.toArray (0, 0) _ K6.out Tryd.underlying27 rfl hzV.out ?_)
          | (go_at_call 20; refine (hck.out _ s6).mono ?_; rintro e w6 ⟨rfl, hb6⟩; have r6 := r6.later hb6 r6.lt; have K6 := Lib.hid (show w6.heap[g6]? = some (.cells V.toArray 27 (0, 0)) from r6); have s6 := s6.later (Nat.le_refl _) hb6; have r3 := r3.later hb6 r3.lt; have Q3 := Lib.hid (show w6.heap[w.heap.size + 1 + 1]? = some (.cells Z.toArray 27 (0, 0)) from r3); have hB := hB.trans (hb6.mono hB.size))
          | (have _t := Q3; refine wpList_store_row rfl 27 (.tmp 4) (.tmp 27) rfl (w.heap.size + 1 + 1) Z.toArray rfl (by rw [hZe.out]; rfl) 27 Z.toArray Q3.out hzZ.out rfl hZ1.out ?_; refine Hid.out ?_))
        refine Lib.hid ?_
        generalize hw8 : World.setRow _ _ _ = w8
        obtain ⟨r8, hg8⟩ := row_set (show Row w6 (w.heap.size + 1 + 1) 27 Z from Q3.out) hw8
        have hb8 := hB.grown hg8 hB.size (fun k h => by cases h; omega)
        have R8 := Lib.hid (show w8.heap[w.heap.size + 1 + 1]? = some (.cells Z.toArray 27 (0, 0)) from r8)
        clear hw8 r8 Q3
        go_wp2_with fail
        exact ⟨rfl, _, results_row_tmp rfl _ _ (w.heap.size + 1 + 1) 27 Z.toArray (0, 0) _ rfl R8.out Tryd.underlying27 rfl hzZ.out _ rfl, none, 0, by rw [E2.out, E1.out, HZ.out]; rfl, by rw [E2.out]; exact sl_zeroK _, (fun a h => by cases h), hb8⟩
      · have e1 : er = 0 := HE.out.trans (if_pos rfl)
        have e2 : U = M := by rw [HG.out, e1]; rfl
        have E1 := Lib.hid e1
        have E2 := Lib.hid e2
        clear e1 e2 HE HG
        go_wp2_with (first
          | (with_reducible refine wpList_load_row rfl 27 (.tmp 6) rfl g6 rfl 27 V.toArray (0, 0) _ K6.out Tryd.underlying27 rfl hzV.out ?_)
          | (go_at_call 20; refine (hck.out _ s6).mono ?_; rintro e w6 ⟨rfl, hb6⟩; have r6 := r6.later hb6 r6.lt; have K6 := Lib.hid (show w6.heap[g6]? = some (.cells V.toArray 27 (0, 0)) from r6); have s6 := s6.later (Nat.le_refl _) hb6; have r3 := r3.later hb6 r3.lt; have Q3 := Lib.hid (show w6.heap[w.heap.size + 1 + 1]? = some (.cells Z.toArray 27 (0, 0)) from r3); have hB := hB.trans (hb6.mono hB.size))
          | (have _t := Q3; refine wpList_store_row rfl 27 (.tmp 4) (.tmp 28) rfl (w.heap.size + 1 + 1) V.toArray rfl rfl 27 Z.toArray Q3.out hzV.out hVZ.out hV1.out ?_; refine Hid.out ?_))
        refine Lib.hid ?_
        generalize hw8 : World.setRow _ _ _ = w8
        obtain ⟨r8, hg8⟩ := row_set (show Row w6 (w.heap.size + 1 + 1) 27 Z from Q3.out) hw8
        have hb8 := hB.grown hg8 hB.size (fun k h => by cases h; omega)
        have R8 := Lib.hid (show w8.heap[w.heap.size + 1 + 1]? = some (.cells V.toArray 27 (0, 0)) from r8)
        clear hw8 r8 Q3
        go_wp2_with fail
        exact ⟨rfl, _, results_row_tmp rfl _ _ (w.heap.size + 1 + 1) 27 V.toArray (0, 0) _ rfl R8.out Tryd.underlying27 rfl hzV.out _ rfl, B, d, by rw [E2.out, E1.out, HV.out]; rfl, by rw [E2.out]; exact s6.apart hg8 (fun _ a ha => by have := hap a ha; omega), (fun a ha => by have := hap a ha; omega), hb8⟩
end Go.Proofs.YtcbilopdeiapjaaDoor
