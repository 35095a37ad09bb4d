/- Texts of this claim, one behind the other. -/
import Derived.Test.YtcbilopdeiapjaaDoorRbag
import Derived.Test.YtcbilopdeiapjaaDoorRbah
import Derived.Deep.DeepCutAuto
import Derived.Test.YtcbilopdeiapjaaDoorRbac
import Derived.Lib.AppendStr
import Derived.Test.YtcbilopdeiapjaaDoorRbae
import Derived.Test.YtcbilopdeiapjaaDoorRbab
/- LAYER 20: the document's Unlock, Reveal. -/
namespace Go.Proofs.YtcbilopdeiapjaaDoor
set_option maxRecDepth 100000
open Go Go.RowKit

set_option maxHeartbeats 4000000 in
theorem runlock_any (key s : List UInt8) (hk : key.length = 32) (hs : s.length ≤ 100000) (w : World) :
    Calls Tryd.prog 11 #[.agg (byts key).toArray, .string (bstr s)] w fun e w' => e = .returned (.tuple #[.agg (byts (unlockL key s).1).toArray, .string (bstr (unlockL key s).2.1), .bool (unlockL key s).2.2]) ∧ Below w.heap.size w w' := by
  have hkz := Lib.hid (show (Tryd.prog.info? 25).map (·.size) = some (byts key).toArray.size by rw [List.size_toArray, tag_fit key hk]; exact size_tag)
  obtain ⟨Z, hZ⟩ : ∃ Z, Z = byts zero32 := ⟨_, rfl⟩
  have hZe : Z = List.replicate 32 (Value.int .u8 0) := by rw [hZ]; rfl
  have hzZ := Lib.hid (show (Tryd.prog.info? 25).map (·.size) = some Z.toArray.size by rw [hZe]; exact size_tag)
  have hZ1 := Lib.hid (show Z.toArray.all (·.oneCell') = true by rw [hZ]; exact all_one (byts_one _))
  have HZ := Lib.hid hZ
  have HZe := Lib.hid hZe
  have hky := Lib.hid (fun w' => rkey_any key hk partyU none 0 0 [] w' ⟨.inl rfl, Nat.le_refl _, fun _ => rfl⟩ rfl (by show (5 + 1) + 0 ≤ _; decide))
  have hop := Lib.hid (fun w' => ropen_any (keyD key partyU []) (length_keyD _ _ _) s (by omega) w')
  have hPl := openL_len (keyD key partyU []) s
  have HU : unlockL key s = if (openL (keyD key partyU []) s).2 = true ∧ 32 ≤ (openL (keyD key partyU []) s).1.length then ((openL (keyD key partyU []) s).1.take 32, (openL (keyD key partyU []) s).1.drop 32, true) else (zero32, [], false) := rfl
  unfold openV at hop
  generalize keyD key partyU [] = kd at *
  obtain ⟨⟨P, ok⟩, hO⟩ : ∃ O, O = openL kd s := ⟨_, rfl⟩
  rw [← hO] at hop hPl HU
  have HU := Lib.hid HU
  clear hO hk hZ hZe
  have hPl : P.length ≤ s.length := hPl
  have hzP := size_bstr P
  generalize unlockL key s = R at *
  go_enter Tryd.func11, Tryd.ntmps11
  go_upto_region 1 with fail
  generalize hw1 : World.alloc (World.alloc _ _) _ = w1
  obtain ⟨r1, r2, hb1⟩ := two_rows19 (B := List.replicate 32 (Value.int .u8 0)) hw1
  rw [← HZe.out] at r2
  have R1 := Lib.hid (show w1.heap[w.heap.size]? = some (.cells (byts key).toArray 25 (0, 0)) from r1)
  clear hw1 r1
  go_wp2_with (first
    | (with_reducible refine wpList_load_row rfl 25 (.tmp 2) rfl w.heap.size rfl 25 (byts key).toArray (0, 0) _ R1.out Tryd.underlying25 rfl hkz.out ?_)
    | (go_at_call 27; refine (hky.out _).mono ?_; rintro e w2 ⟨rfl, hq⟩; have r2 := r2.later hq r2.lt; have hb2 := hb1.trans (hq.mono hb1.size); clear hq)
    | (go_at_call 26; refine (hop.out _).mono ?_; rintro e w3 ⟨rfl, hq⟩; have r2 := r2.later hq r2.lt; have hb3 := hb2.trans (hq.mono hb2.size); clear hq; refine Hid.out ?_))
  refine Lib.hid ?_
  clear hb1 hb2 R1 hky hop hkz
  have R2 := Lib.hid (show w3.heap[w.heap.size + 1]? = some (.cells Z.toArray 25 (0, 0)) from r2)
  cases ok with
  | false =>
    have HB := Lib.hid (HU.out.trans (if_neg (fun h => by cases h.1)))
    go_wp2_with (have _t := R2; refine wpList_store_row rfl 25 (.tmp 4) (.tmp 23) rfl (w.heap.size + 1) Z.toArray rfl (by rw [HZe.out]; rfl) 25 Z.toArray R2.out hzZ.out rfl hZ1.out ?_; refine Hid.out ?_)
    refine Lib.hid ?_
    generalize hw8 : World.setRow _ _ _ = w8
    obtain ⟨r8, hg8⟩ := row_set (show Row w3 (w.heap.size + 1) 25 Z from R2.out) hw8
    have hb8 := hb3.grown hg8 hb3.size (fun k h => by cases h; omega)
    have R8 := Lib.hid (show w8.heap[w.heap.size + 1]? = some (.cells Z.toArray 25 (0, 0)) from r8)
    clear hw8 r8 R2 r2
    go_wp2_with fail
    exact ⟨rfl, _, results_row_tmp2 rfl _ _ (w.heap.size + 1) 25 Z.toArray (0, 0) _ rfl R8.out Tryd.underlying25 rfl hzZ.out _ _ rfl rfl, by rw [HB.out, HZ.out]; rfl, hb8⟩
  | true =>
    by_cases h32 : P.length < 32
    · have h32' : ((bstr P).size : Int) < 32 := by rw [hzP]; omega
      have HB := Lib.hid (HU.out.trans (if_neg (fun h => by have := h.2; omega)))
      go_wp2_with (have _t := R2; refine wpList_store_row rfl 25 (.tmp 4) (.tmp 23) rfl (w.heap.size + 1) Z.toArray rfl (by rw [HZe.out]; rfl) 25 Z.toArray R2.out hzZ.out rfl hZ1.out ?_; refine Hid.out ?_)
      refine Lib.hid ?_
      generalize hw8 : World.setRow _ _ _ = w8
      obtain ⟨r8, hg8⟩ := row_set (show Row w3 (w.heap.size + 1) 25 Z from R2.out) hw8
      have hb8 := hb3.grown hg8 hb3.size (fun k h => by cases h; omega)
      have R8 := Lib.hid (show w8.heap[w.heap.size + 1]? = some (.cells Z.toArray 25 (0, 0)) from r8)
      clear hw8 r8 R2 r2
      go_wp2_with fail
      exact ⟨rfl, _, results_row_tmp2 rfl _ _ (w.heap.size + 1) 25 Z.toArray (0, 0) _ rfl R8.out Tryd.underlying25 rfl hzZ.out _ _ rfl rfl, by rw [HB.out, HZ.out]; rfl, hb8⟩
    · have h32' : ¬ ((bstr P).size : Int) < 32 := by rw [hzP]; omega
      have h32 : 32 ≤ P.length := by omega
      have hN := List.length_take_of_le h32
      have hN32 := Lib.hid hN
      have hx1 : (bstr P).extract 0 32 = bstr (P.take 32) := by rw [extract_bstr]; rfl
      have hx2 : (bstr P).extract 32 (bstr P).size = bstr (P.drop 32) := by rw [extract_bstr, hzP, List.take_of_length_le (by rw [List.length_drop]; exact Nat.le_refl _)]
      obtain ⟨V, hV⟩ : ∃ V, V = byts (P.take 32) := ⟨_, rfl⟩
      have hVl : V.length = 32 := by rw [hV]; exact tag_fit _ hN
      have hone := Lib.hid (show ∀ v ∈ V, v.oneCell' = true by rw [hV]; exact byts_one _)
      have hszl := Lib.hid (show (Tryd.prog.info? 25).map (·.size) = some V.length by rw [size_tag, hVl])
      have hsz2 := Lib.hid (show (Tryd.prog.info? 25).map (·.size) = some V.toArray.size by rw [size_tag, List.size_toArray, hVl])
      have hfit := Lib.hid (show 0 + V.length ≤ Z.length by rw [hVl, HZe.out]; decide)
      have HVr := Lib.hid (show splice Z 0 V = V by
        unfold splice
        rw [List.take_zero, List.nil_append, Nat.zero_add, hVl, List.drop_eq_nil_of_le (by rw [HZe.out]; decide), List.append_nil])
      have HV := Lib.hid hV
      have HB := Lib.hid (HU.out.trans (if_pos ⟨rfl, h32⟩))
      have hlt2 := Lib.hid r2.lt
      clear hV hVl hN R2
      have h32i : (32 : Int) ≤ ((bstr P).size : Int) := by rw [hzP]; omega
      clear HU hzP
      go_upto_region 4 with fail
      refine wp_region_noPanic ?_
      refine wp_region_held_drew (S := fun _ => True) (by kernel_rfl) (trivial) (fun hHeld => ?_)
      have hB : Below w3.heap.size w3 w3.drew := (Below.refl _ _).drew
      refine rt 0 24 hHeld ?_
      refine rt 1 25 hHeld ?_ (hy := by intro w hS; have h1 := hx1; have h2 := h32i; go_simp; try with_reducible rfl)
      refine rt 4 28 hHeld ?_
      refine rt 5 29 hHeld ?_ (hy := by intro w hS; have h1 := hx2; have h2 := h32i; go_simp; try with_reducible rfl)
      refine rc1 2 fun K hK => ?_
      refine step_conv_string (some 26) rfl (by rfl) (.tmp 25) rfl (P.take 32) rfl ?_; rw [hN32.out]; intro A2 c2 ww32 s2 hqw32
      refine rk hK trivial fun hHeld => ?_
      clear hK K
      have hB := below_step hB hqw32
      have hB2 : Below ww32.heap.size ww32 ww32 := Below.refl _ _
      refine rc1 3 fun K hK => ?_
      go_simp
      refine (rtag5_any A2 32 c2 (P.take 32) _ s2 hN32.out.symm hN32.out).mono ?_; rintro e ww33 ⟨rfl, hqw33⟩; rw [← HV.out]
      try go_wp2_with fail
      refine hK.out _ _ trivial (fun hHeld => ?_)
      clear hK K
      have hB := below_step hB hqw33
      have hB2 := below_step hB2 hqw33
      have hB3 : Below ww33.heap.size ww33 ww33 := Below.refl _ _
      refine rc1 6 fun K hK => ?_
      refine step_store_row none rfl (by rfl) 25 (.tmp 4) (.tmp 27) rfl _ 0 25 _ V rfl rfl (r2.later hB r2.lt) hfit.out hszl.out hone.out ?_; intro wf rf hgf; have hBz := hB
      refine hK.out _ _ trivial (fun hHeld => ?_)
      clear hK K
      rw [put_none]
      refine rt 7 5 hHeld ?_
      refine rt 8 6 hHeld ?_
      refine wpAnyH_done (by kernel_rfl) ?_ _
      refine NoPanic.normal ?_
      have r9 := rf
      rw [HVr.out] at r9
      have hb9 := (hb3.trans (hBz.mono hb3.size)).grown hgf (Nat.le_trans hb3.size hBz.size) (fun k h => by cases h; omega)
      have R9 := Lib.hid (show wf.heap[w.heap.size + 1]? = some (.cells V.toArray 25 (0, 0)) from r9)
      clear r9 hgf rf hBz hHeld
      go_wp2_with fail
      exact ⟨rfl, _, results_row_tmp2 rfl _ _ (w.heap.size + 1) 25 V.toArray (0, 0) _ rfl R9.out Tryd.underlying25 rfl hsz2.out _ _ rfl rfl, by rw [HB.out, HV.out]; rfl, hb9⟩
set_option maxHeartbeats 4000000 in
theorem rreveal_any (key s : List UInt8) (hk : key.length = 32) (hs : s.length ≤ 100000) (w : World) :
    Calls Tryd.prog 13 #[.agg (byts key).toArray, .string (bstr s)] w fun e w' => e = .returned (.tuple #[.agg (byts (revealL key s).1).toArray, .bool (revealL key s).2]) ∧ Below w.heap.size w w' := by
  have hkz := Lib.hid (show (Tryd.prog.info? 25).map (·.size) = some (byts key).toArray.size by rw [List.size_toArray, tag_fit key hk]; exact size_tag)
  obtain ⟨Z, hZ⟩ : ∃ Z, Z = byts zero32 := ⟨_, rfl⟩
  have hZe : Z = List.replicate 32 (Value.int .u8 0) := by rw [hZ]; rfl
  have hzZ := Lib.hid (show (Tryd.prog.info? 25).map (·.size) = some Z.toArray.size by rw [hZe]; exact size_tag)
  have hZ1 := Lib.hid (show Z.toArray.all (·.oneCell') = true by rw [hZ]; exact all_one (byts_one _))
  have HZ := Lib.hid hZ
  have HZe := Lib.hid hZe
  have hky := Lib.hid (fun w' => rkey_any key hk vaultU none 0 0 [] w' ⟨.inl rfl, Nat.le_refl _, fun _ => rfl⟩ rfl (by show (5 + 1) + 0 ≤ _; decide))
  have hop := Lib.hid (fun w' => ropen_any (keyD key vaultU []) (length_keyD _ _ _) s (by omega) w')
  have hPl := openL_len (keyD key vaultU []) s
  have HU : revealL key s = if (openL (keyD key vaultU []) s).2 = true ∧ (openL (keyD key vaultU []) s).1.length = 32 then ((openL (keyD key vaultU []) s).1, true) else (zero32, false) := rfl
  unfold openV at hop
  generalize keyD key vaultU [] = kd at *
  obtain ⟨⟨P, ok⟩, hO⟩ : ∃ O, O = openL kd s := ⟨_, rfl⟩
  rw [← hO] at hop hPl HU
  have HU := Lib.hid HU
  clear hO hk hZ hZe
  have hPl : P.length ≤ s.length := hPl
  have hzP := size_bstr P
  generalize revealL key s = R at *
  go_enter Tryd.func13, Tryd.ntmps13
  go_upto_region 1 with fail
  generalize hw1 : World.alloc (World.alloc _ _) _ = w1
  obtain ⟨r1, r2, hb1⟩ := two_rows19 (B := List.replicate 32 (Value.int .u8 0)) hw1
  rw [← HZe.out] at r2
  have R1 := Lib.hid (show w1.heap[w.heap.size]? = some (.cells (byts key).toArray 25 (0, 0)) from r1)
  clear hw1 r1
  go_wp2_with (first
    | (with_reducible refine wpList_load_row rfl 25 (.tmp 2) rfl w.heap.size rfl 25 (byts key).toArray (0, 0) _ R1.out Tryd.underlying25 rfl hkz.out ?_)
    | (go_at_call 27; refine (hky.out _).mono ?_; rintro e w2 ⟨rfl, hq⟩; have r2 := r2.later hq r2.lt; have hb2 := hb1.trans (hq.mono hb1.size); clear hq)
    | (go_at_call 26; refine (hop.out _).mono ?_; rintro e w3 ⟨rfl, hq⟩; have r2 := r2.later hq r2.lt; have hb3 := hb2.trans (hq.mono hb2.size); clear hq; refine Hid.out ?_))
  refine Lib.hid ?_
  clear hb1 hb2 R1 hky hop hkz
  have R2 := Lib.hid (show w3.heap[w.heap.size + 1]? = some (.cells Z.toArray 25 (0, 0)) from r2)
  cases ok with
  | false =>
    have HB := Lib.hid (HU.out.trans (if_neg (fun h => by cases h.1)))
    go_wp2_with (have _t := R2; refine wpList_store_row rfl 25 (.tmp 4) (.tmp 22) rfl (w.heap.size + 1) Z.toArray rfl (by rw [HZe.out]; rfl) 25 Z.toArray R2.out hzZ.out rfl hZ1.out ?_; refine Hid.out ?_)
    refine Lib.hid ?_
    generalize hw8 : World.setRow _ _ _ = w8
    obtain ⟨r8, hg8⟩ := row_set (show Row w3 (w.heap.size + 1) 25 Z from R2.out) hw8
    have hb8 := hb3.grown hg8 hb3.size (fun k h => by cases h; omega)
    have R8 := Lib.hid (show w8.heap[w.heap.size + 1]? = some (.cells Z.toArray 25 (0, 0)) from r8)
    clear hw8 r8 R2 r2
    go_wp2_with fail
    exact ⟨rfl, _, results_row_tmp rfl _ _ (w.heap.size + 1) 25 Z.toArray (0, 0) _ rfl R8.out Tryd.underlying25 rfl hzZ.out _ rfl, by rw [HB.out, HZ.out]; rfl, hb8⟩
  | true =>
    by_cases h32 : P.length = 32
    · have h32' : ((bstr P).size : Int) = 32 := by rw [hzP]; omega
      have hN32 := Lib.hid h32
      obtain ⟨V, hV⟩ : ∃ V, V = byts P := ⟨_, rfl⟩
      have hVl : V.length = 32 := by rw [hV]; exact tag_fit _ h32
      have hone := Lib.hid (show ∀ v ∈ V, v.oneCell' = true by rw [hV]; exact byts_one _)
      have hszl := Lib.hid (show (Tryd.prog.info? 25).map (·.size) = some V.length by rw [size_tag, hVl])
      have hsz2 := Lib.hid (show (Tryd.prog.info? 25).map (·.size) = some V.toArray.size by rw [size_tag, List.size_toArray, hVl])
      have hfit := Lib.hid (show 0 + V.length ≤ Z.length by rw [hVl, HZe.out]; decide)
      have HVr := Lib.hid (show splice Z 0 V = V by
        unfold splice
        rw [List.take_zero, List.nil_append, Nat.zero_add, hVl, List.drop_eq_nil_of_le (by rw [HZe.out]; decide), List.append_nil])
      have HV := Lib.hid hV
      have HB := Lib.hid (HU.out.trans (if_pos ⟨rfl, h32⟩))
      have hlt2 := Lib.hid r2.lt
      clear hV hVl h32 hzP
      have hsZV := Lib.hid (show Z.toArray.size = V.toArray.size by rw [HZe.out]; exact (Option.some.inj (hsz2.out.symm.trans size_tag)).symm)
      clear HU
      go_wp2_with (first
        | (refine wpList_conv_string rfl (.tmp 23) rfl P rfl ?_; intro A2 c2 w4 s2 hq; rw [hN32.out]; have r2 := r2.later hq r2.lt; have hb4 := hb3.trans (hq.mono hb3.size); clear hq)
        | (go_at_call 28; refine (rtag5_any A2 32 c2 P _ s2 hN32.out.symm hN32.out).mono ?_; rintro e w5 ⟨rfl, hq⟩; rw [← HV.out]; have r2 := r2.later hq r2.lt; have hb5 := hb4.trans (hq.mono hb4.size); have R2 := Lib.hid (show w5.heap[w.heap.size + 1]? = some (.cells Z.toArray 25 (0, 0)) from r2); clear hq)
        | (have _t := hb5; refine wpList_store_row rfl 25 (.tmp 4) (.tmp 25) rfl (w.heap.size + 1) V.toArray rfl rfl 25 Z.toArray R2.out hsz2.out (hsZV.out) (all_one hone.out) ?_; refine Hid.out ?_))
      refine Lib.hid ?_
      generalize hw8 : World.setRow _ _ _ = w8
      obtain ⟨r8, hg8⟩ := row_set (show Row w5 (w.heap.size + 1) 25 Z from R2.out) hw8
      have hb8 := hb5.grown hg8 hb5.size (fun k h => by cases h; omega)
      have R8 := Lib.hid (show w8.heap[w.heap.size + 1]? = some (.cells V.toArray 25 (0, 0)) from r8)
      clear hw8 r8 R2 r2
      go_wp2_with fail
      exact ⟨rfl, _, results_row_tmp rfl _ _ (w.heap.size + 1) 25 V.toArray (0, 0) _ rfl R8.out Tryd.underlying25 rfl hsz2.out _ rfl, by rw [HB.out, HV.out]; rfl, hb8⟩
    · have h32' : ¬ ((bstr P).size : Int) = 32 := by rw [hzP]; omega
      have HB := Lib.hid (HU.out.trans (if_neg (fun h => h32 h.2)))
      go_wp2_with (have _t := R2; refine wpList_store_row rfl 25 (.tmp 4) (.tmp 22) rfl (w.heap.size + 1) Z.toArray rfl (by rw [HZe.out]; rfl) 25 Z.toArray R2.out hzZ.out rfl hZ1.out ?_; refine Hid.out ?_)
      refine Lib.hid ?_
      generalize hw8 : World.setRow _ _ _ = w8
      obtain ⟨r8, hg8⟩ := row_set (show Row w3 (w.heap.size + 1) 25 Z from R2.out) hw8
      have hb8 := hb3.grown hg8 hb3.size (fun k h => by cases h; omega)
      have R8 := Lib.hid (show w8.heap[w.heap.size + 1]? = some (.cells Z.toArray 25 (0, 0)) from r8)
      clear hw8 r8 R2 r2
      go_wp2_with fail
      exact ⟨rfl, _, results_row_tmp rfl _ _ (w.heap.size + 1) 25 Z.toArray (0, 0) _ rfl R8.out Tryd.underlying25 rfl hzZ.out _ rfl, by rw [HB.out, HZ.out]; rfl, hb8⟩
end Go.Proofs.YtcbilopdeiapjaaDoor

/- LAYER 6: package derive's Frame. -/
namespace Go.Proofs.YtcbilopdeiapjaaDoor
set_option maxRecDepth 100000
open Go Go.RowKit

theorem strCells_bstr (l : List UInt8) : Lib.strCells (bstr l) = byts l := by unfold Lib.strCells bstr byts; simp
set_option maxRecDepth 100000 in
set_option maxHeartbeats 1000000 in
theorem dframe_any (A : Option Addr) (n c : Nat) (ss : List (List UInt8)) (w : World) (hs : Sl w A c (strsV ss)) (hn : n = ss.length) (hm : sumS ss ≤ 1000000000) :
    Calls Tryd.prog 40 #[.slice A n c] w (GaveBytes (frameL ss) w) := by
  subst hn
  obtain ⟨i0, hi, hz0, hz1, hz2⟩ := info_parts infoByte
  have hl1 := sumS_len ss
  have hown0 : w.ownsRow w.heap.size 5 1 (.slice none 0 0) 0 [] := World.ownsRow_nil w _ _ _
  have hb0 := Below.refl w.heap.size w
  go_enter Tryd.func40, Tryd.ntmps40
  go_wp2_with fail
  go_loopw [3, 8] (fun v i wr => ∃ k : Nat, k ≤ ss.length ∧ i = .int .i64 k ∧ wr.ownsRow w.heap.size 5 1 v (frameL (ss.take k)).length (byts (frameL (ss.take k))) ∧ Below w.heap.size w wr) (fun _ i _ => ss.length - (intOf i).toNat)
  case atStart => exact ⟨0, by omega, rfl, hown0, hb0⟩
  case round =>
    clear hown0 hb0
    obtain ⟨k, hk, rfl, hown, hb⟩ := hrel
    by_cases hlt : k < ss.length
    · obtain ⟨b, o, rfl, hb0, hr0⟩ := hs.rd.get (i := 0) (by rw [length_strsV]; omega)
      clear hb0 hr0
      have hix := index_strs (some ⟨b, o, none⟩) b o ss.length c k rfl hlt
      have hc := strs_cell (hs.later (Nat.le_refl _) hb) k hlt
      have HS := Lib.hid (frameL_succ ss k hlt)
      have hq1 := sumS_mem ss (ss.getD k []) (by rw [List.getD_eq_getElem?_getD, List.getElem?_eq_getElem hlt]; exact List.getElem_mem hlt)
      have hF := frameL_le ss k
      have hF2 := length_frameL ss
      generalize ss.getD k [] = q at *
      generalize frameL (ss.take k) = F at *
      have hz := size_bstr q
      have n1 : F.length + (eightL q.length).length ≤ maxLen := by rw [length_eightL]; unfold maxLen; omega
      have n2 : (F.length + (eightL q.length).length) * 1 ≤ 140737488355328 := by rw [length_eightL]; omega
      have m1 : F.length + (eightL q.length).length + (bstr q).size ≤ maxLen := by rw [length_eightL, hz]; unfold maxLen; omega
      have m2 : F.length + (eightL q.length).length + (bstr q).size ≤ 140737488355328 := by rw [length_eightL, hz]; omega
      have hql : (q.length : Int) ≤ 1000000000 := by omega
      have hnum := number_any q.length
      have HL8 := Lib.hid (show (eightL q.length).length = (byts (eightL q.length)).length from (length_byts _).symm)
      have HP := Lib.hid (show partL q = eightL q.length ++ q from rfl)
      have hbs := hb.size
      clear hq1 hF hF2
      generalize eightL q.length = e8 at *
      go_wp2_with (first
        | (go_at_call 56; refine (hnum _).mono ?_; rintro e w1 ⟨v1, rfl, hown1, hb1⟩; obtain ⟨A1, c1, rfl, _, hsl1⟩ := Sl.of_own hown1; have hownF := own_later hown hb1 (Nat.le_refl _); have hbw1 := hb.trans (hb1.mono hbs); clear hown1)
        | (at_builtin; refine wpList_append_sl rfl (.tmp 12) (.tmp 16) 58 rfl w.heap.size 5 i0 _ 1 Tryd.underlying58 hi hz0 hz1 hz2 rfl _ F.length (byts F) rfl hownF A1 e8.length c1 (byts e8) rfl HL8.out hsl1 (byts_one _) n1 n2 hbw1.size ?_; intro v2 w2 hown2 hg2; have hbw2 : Below w.heap.size w w2 := hbw1.grown hg2 hbw1.size (fun k hk => (hownF.lt k hk).1); clear hg2 hownF hsl1)
        | (at_builtin; refine Lib.wpList_append_own_string _ rfl (.tmp 18) (.tmp 19) 58 9 rfl w.heap.size 5 i0 Tryd.underlying58 Tryd.underlying9 hi hz0 hz1 hz2 _ (F.length + e8.length) (byts F ++ byts e8) rfl hown2 (bstr q) rfl m1 m2 hbw2.size ?_; intro v4 w4 hown4 hg4 _h4; have hbw4 : Below w.heap.size w w4 := hbw2.grown hg4 hbw2.size (fun k hk => (hown2.lt k hk).1)))
      go_roundw
      case rel =>
        refine ⟨k + 1, by omega, by go_num, ?_, hbw4⟩
        rw [HS.out, HP.out]
        have e1 : byts F ++ byts e8 ++ byts q = byts (F ++ (e8 ++ q)) := by rw [byts_append, byts_append, List.append_assoc]
        have e2 : F.length + e8.length + q.length = (F ++ (e8 ++ q)).length := by simp only [List.length_append]; omega
        rw [strCells_bstr, e1, hz, e2] at hown4
        exact hown4
      case measure => simp [intOf]; omega
    · obtain rfl : k = ss.length := by omega
      rw [List.take_length] at hown
      clear hlt hk hs
      generalize ss.length = n at *
      go_wp2
      go_ret
      exact ⟨_, rfl, hown, hb⟩
end Go.Proofs.YtcbilopdeiapjaaDoor

/- LAYER 4: package hmac's New, Write, Sum. -/
namespace Go.Proofs.YtcbilopdeiapjaaDoor
set_option maxRecDepth 100000
open Go Go.RowKit

/-- Block g is a mac by the key k to which l was written: two digests beside each other. -/
structure Macd (w : World) (g gi go : Nat) (k l : List UInt8) : Prop where
  row : Row w g 103 [.pointer (some ⟨gi, 0, none⟩), .pointer (some ⟨go, 0, none⟩)]
  din : Dgt w gi (xorL 54 (keyL k) ++ l)
  dout : Dgt w go (xorL 92 (keyL k))
  gi_lt : gi < g
  go_lt : go < g
  ne : gi ≠ go
theorem Macd.lt {w : World} {g gi go : Nat} {k l : List UInt8} (h : Macd w g gi go k l) : g < w.heap.size := h.row.lt
/-- The call gave a mac of its own by the key k to which nothing was written. -/
def GaveMac (k : List UInt8) (w : World) (e : Ending) (w' : World) : Prop :=
  ∃ g gi go, e = .returned (.pointer (some ⟨g, 0, none⟩)) ∧ w.heap.size ≤ gi ∧ w.heap.size ≤ go ∧ Macd w' g gi go k [] ∧ Below w.heap.size w w'
set_option maxRecDepth 100000 in
set_option maxHeartbeats 1000000 in
theorem mnew_any (A : Option Addr) (n c : Nat) (k : List UInt8) (w : World) (hT : Tabs w) (hs : Sl w A c (byts k)) (hn : n = k.length) (hm : k.length ≤ 2305843009213693952) :
    Calls Tryd.prog 53 #[.slice A n c] w (GaveMac k w) := by
  have hKl := length_keyL k
  obtain ⟨V, hVq⟩ : ∃ V, V = byts (keyL k) := ⟨_, rfl⟩
  have hVl : V.length = 64 := by rw [hVq, length_byts, hKl]
  have hone := Lib.hid (all_one (show ∀ v ∈ V, v.oneCell' = true by rw [hVq]; exact byts_one _))
  have hsz := Lib.hid (show (Tryd.prog.info? 98).map (·.size) = some V.toArray.size by rw [size_blk, List.size_toArray, hVl])
  have hszV := Lib.hid (show (Tryd.prog.info? 98).map (·.size) = some V.length by rw [size_blk, hVl])
  have h64 := Lib.hid (show 64 = V.toArray.size by rw [List.size_toArray, hVl])
  have hw := Lib.hid (show Calls Tryd.prog 66 #[.slice A n c] w fun e w' => e = .returned (.agg V.toArray) ∧ Below w.heap.size w w' by rw [hVq]; exact whole_any A n c k w hT hs hn hm)
  have hb54 := Lib.hid (show ∀ w, Tabs w → Calls Tryd.prog 67 #[.agg V.toArray, .int .u8 54] w (GaveDig (xorL 54 (keyL k)) w) by rw [hVq]; exact fun w h => begun_any (keyL k) hKl 54 w h)
  have hb92 := Lib.hid (show ∀ w, Tabs w → Calls Tryd.prog 67 #[.agg V.toArray, .int .u8 92] w (GaveDig (xorL 92 (keyL k)) w) by rw [hVq]; exact fun w h => begun_any (keyL k) hKl 92 w h)
  clear hVq hVl hKl hs hn hm
  go_enter Tryd.func53, Tryd.ntmps53
  go_wp2_with (first
    | (go_at_call 66; refine hw.out.mono ?_; rintro e w1 ⟨rfl, hb1⟩)
    | (with_reducible refine wpList_store_row rfl 98 (.tmp 3) (.tmp 5) rfl w1.heap.size V.toArray rfl rfl 98 _ (heap_alloc_new w1 _) hsz.out (Eq.trans (by kernel_rfl) h64.out) hone.out ?_; refine Hid.out ?_))
  refine Lib.hid ?_
  generalize hw4 : World.setRow _ _ _ = w4
  obtain ⟨r4, hb4⟩ := row_new_set (xs := V) hw4
  have hbB := hb1.trans (hb4.mono hb1.size)
  have hT4 := hT.later hbB (Nat.le_refl _)
  clear hw4 hb4 hb1
  go_wp2_with fail
  refine wp_region_noPanic ?_
  refine wp_region_held_drew (S := fun w' => Below w4.heap.size w4 w') (by kernel_rfl) ((Below.refl _ _).drew) (fun hHeld => ?_)
  have hAll := hHeld
  refine rt 0 6 hHeld ?_ (hy := by intro w hS; exact run_load_op 98 (.tmp 3) rfl w1.heap.size 0 rfl V (.array 64 5) (row_range (r4.later hS r4.lt)) Tryd.underlying98 rfl hszV.out)
  refine rt 2 8 hHeld ?_ (hy := by intro w hS; exact run_load_op 98 (.tmp 3) rfl w1.heap.size 0 rfl V (.array 64 5) (row_range (r4.later hS r4.lt)) Tryd.underlying98 rfl hszV.out)
  refine rc1 1 fun K hK => ?_
  go_simp
  refine (hb54.out _ (hT4.later hHeld (Nat.le_refl _))).mono ?_; rintro e w5 ⟨gi, rfl, hgi, hd5, hb5⟩
  try go_wp2_with fail
  refine hK.out _ _ (below_step hHeld hb5) (fun _ => ?_)
  clear hK K
  try (rw [put_some]; dsimp only [List.set])
  have hAll := below_step hAll hb5
  refine wpAnyH_narrow (S' := fun w' => Below w5.heap.size w5 w') (fun _ h => below_step (below_step hHeld hb5) h) _ _ _ _ ?_
  clear hHeld
  have hHeld : Below w5.heap.size w5 w5 := Below.refl _ _
  refine rc1 3 fun K hK => ?_
  go_simp
  refine (hb92.out _ (hT4.later hAll (Nat.le_refl _))).mono ?_; rintro e w6 ⟨go, rfl, hgo, hd6, hb6⟩
  try go_wp2_with fail
  refine hK.out _ _ (below_step hHeld hb6) (fun _ => ?_)
  clear hK K
  try (rw [put_some]; dsimp only [List.set])
  have hAll := below_step hAll hb6
  refine wpAnyH_narrow (S' := fun w' => Below w6.heap.size w6 w') (fun _ h => below_step (below_step hHeld hb6) h) _ _ _ _ ?_
  clear hHeld
  have hHeld : Below w6.heap.size w6 w6 := Below.refl _ _
  refine rt 4 10 hHeld ?_
  refine rc1 5 fun K hK => ?_
  refine step_alloc (some 11) rfl (by rfl) (.pointer (some ⟨w6.heap.size, 0, none⟩)) (.cells #[.pointer (some ⟨gi, 0, none⟩), .pointer (some ⟨go, 0, none⟩)] 103) (by go_simp) ?_; intro w7 hw7 hb7
  refine hK.out _ _ (below_step hHeld hb7) (fun _ => ?_)
  clear hK K
  try (rw [put_some]; dsimp only [List.set])
  have hAll := below_step hAll hb7
  refine wpAnyH_narrow (S' := fun w' => Below w7.heap.size w7 w') (fun _ h => below_step (below_step hHeld hb7) h) _ _ _ _ ?_
  clear hHeld
  have hHeld : Below w7.heap.size w7 w7 := Below.refl _ _
  refine rt 6 2 hHeld ?_
  refine wpAnyH_done (by kernel_rfl) ?_ _
  refine NoPanic.normal ?_
  subst hw7
  have r7 := Row.new w6 103 [.pointer (some ⟨gi, 0, none⟩), .pointer (some ⟨go, 0, none⟩)]
  have hbC := hbB.trans (hAll.mono hbB.size)
  go_wp2
  go_ret
  have q1 := hd5.lt
  have q2 := hd6.lt
  have q3 := hb6.size
  have q4 := hbB.size
  have q5 := hb5.size
  have q6 : w4.drew.heap.size = w4.heap.size := rfl
  exact ⟨w6.heap.size, gi, go, rfl, by omega, by omega, ⟨r7, by rw [List.append_nil]; exact (hd5.later hb6 hd5.lt).later hb7 (by omega), hd6.later hb7 hd6.lt, by omega, by omega, by omega⟩, hbC⟩
theorem mac_cells {w : World} {g gi go : Nat} {k l : List UInt8} (h : Macd w g gi go k l) : w.cell? ⟨g, 0, none⟩ = some (.pointer (some ⟨gi, 0, none⟩)) ∧ w.cell? ⟨g, 1, none⟩ = some (.pointer (some ⟨go, 0, none⟩)) :=
  ⟨(h.row.cell 0).trans rfl, (h.row.cell 1).trans rfl⟩
theorem mwrite_any (g gi go n : Nat) (k l b : List UInt8) (A : Option Addr) (c : Nat) (w : World) (hT : Cube w) (hd : Macd w g gi go k l) (hs : Sl w A c (byts b)) (hA : 0 < b.length → ∀ a, A = some a → a.block ≠ gi) (hn : n = b.length) (hm : 64 + l.length + b.length ≤ 4611686018427387904) :
    Calls Tryd.prog 54 #[.pointer (some ⟨g, 0, none⟩), .slice A n c] w fun e w' => e = .returned (.tuple #[]) ∧ Macd w' g gi go k (l ++ b) ∧ w.grownBy w' (some gi) := by
  have hw := Lib.hid (show Calls Tryd.prog 68 #[.pointer (some ⟨gi, 0, none⟩), .slice A n c] w fun e w' => e = .returned (.tuple #[]) ∧ Dgt w' gi ((xorL 54 (keyL k) ++ l) ++ b) ∧ w.grownBy w' (some gi) from
    write_at gi n _ b A c w hT hd.din hs hA hn (by rw [List.length_append, length_xorL, length_keyL]; exact hm))
  obtain ⟨c0, c1⟩ := mac_cells hd
  clear c1 hs hA hn hm hT
  go_enter Tryd.func54, Tryd.ntmps54
  go_wp2_with (go_at_call 68; refine hw.out.mono ?_; rintro e w3 ⟨rfl, hd3, hg3⟩)
  go_end0
  have q1 := hd.gi_lt
  exact ⟨rfl, ⟨hd.row.grown hg3 (by omega), by rw [← List.append_assoc]; exact hd3, hd.dout.grown hg3 (Ne.symm hd.ne), hd.gi_lt, hd.go_lt, hd.ne⟩, hg3⟩
set_option maxRecDepth 100000 in
set_option maxHeartbeats 1000000 in
theorem msum_any (g gi go : Nat) (k l : List UInt8) (w : World) (hT : Cube w) (hd : Macd w g gi go k l) (hm : 64 + l.length ≤ 2305843009213693952) :
    Calls Tryd.prog 55 #[.pointer (some ⟨g, 0, none⟩)] w fun e w' => e = .returned (.agg (byts (macL k l)).toArray) ∧ Below w.heap.size w w' := by
  obtain ⟨KI, hKI⟩ : ∃ KI, KI = xorL 54 (keyL k) ++ l := ⟨_, rfl⟩
  obtain ⟨KO, hKO⟩ : ∃ KO, KO = xorL 92 (keyL k) := ⟨_, rfl⟩
  have hKIl : KI.length ≤ 2305843009213693952 := by rw [hKI, List.length_append, length_xorL, length_keyL]; exact hm
  have hKOl : KO.length = 64 := by rw [hKO, length_xorL, length_keyL]
  have hdi := hd.din
  have hdo := hd.dout
  rw [← hKI] at hdi
  rw [← hKO] at hdo
  obtain ⟨c0, c1⟩ := mac_cells hd
  have hgl := hd.lt
  have hil := hdi.lt
  have hol := hdo.lt
  obtain ⟨X, hX⟩ : ∃ X, X = byts (shaL KI) := ⟨_, rfl⟩
  have hXl : X.length = 32 := by rw [hX]; exact store_tag
  have honeX := Lib.hid (all_one (show ∀ v ∈ X, v.oneCell' = true by rw [hX]; exact byts_one _))
  have hszX := Lib.hid (show (Tryd.prog.info? 25).map (·.size) = some X.toArray.size by rw [size_tag, List.size_toArray, hXl])
  have h32 := Lib.hid (show 32 = X.toArray.size by rw [List.size_toArray, hXl])
  obtain ⟨V, hV⟩ : ∃ V, V = byts (macL k l) := ⟨_, rfl⟩
  have hVl : V.length = 32 := by rw [hV]; exact store_tag
  have honeV := Lib.hid (all_one (show ∀ v ∈ V, v.oneCell' = true by rw [hV]; exact byts_one _))
  have hszV := Lib.hid (show (Tryd.prog.info? 25).map (·.size) = some V.toArray.size by rw [size_tag, List.size_toArray, hVl])
  have hszo := Lib.hid (show (List.replicate 32 (Value.int .u8 0)).toArray.size = V.toArray.size by rw [List.size_toArray, List.size_toArray, List.length_replicate, hVl])
  have hsum1 := Lib.hid (show ∀ w, Cube w → Dgt w gi KI → Calls Tryd.prog 69 #[.pointer (some ⟨gi, 0, none⟩)] w fun e w' => e = .returned (.agg X.toArray) ∧ Below w.heap.size w w' by rw [hX]; exact fun w hC hd => sum_any gi KI w hC hd hKIl)
  have hsum2 := Lib.hid (show ∀ g w, Cube w → Dgt w g (KO ++ shaL KI) → Calls Tryd.prog 69 #[.pointer (some ⟨g, 0, none⟩)] w fun e w' => e = .returned (.agg V.toArray) ∧ Below w.heap.size w w' by
    intro g w hC hd
    have := sum_any g (KO ++ shaL KI) w hC hd (by rw [List.length_append, hKOl, length_shaL]; decide)
    rw [hV]; unfold macL; rw [← hKI, ← hKO]; exact this)
  have HX := Lib.hid hX
  have HV := Lib.hid hV
  have HKO := Lib.hid hKOl
  clear hX hXl hV hVl hKI hKO hKIl hKOl hm hd
  have tok1 : True := trivial
  have tok2 : True := trivial
  go_enter Tryd.func55, Tryd.ntmps55
  have hb0 := (Below.refl w.heap.size w).alloc (Nat.le_refl _) (.cells (List.replicate 32 (Value.int .u8 0)).toArray 25)
  go_wp2_with (first
    | (go_at_call 69; have _t := tok1; refine (hsum1.out _ (hT.later hb0 (Nat.le_refl _)) (hdi.later hb0 hil)).mono ?_; rintro e w1 ⟨rfl, hb1⟩; have r0 := (Row.new w 25 (List.replicate 32 (.int .u8 0))).later hb1 (Row.new w 25 (List.replicate 32 (.int .u8 0))).lt; have hbA := hb0.trans (hb1.mono hb0.size); clear tok1 hb1)
    | (with_reducible refine wpList_store_row rfl 25 (.tmp 3) (.tmp 9) rfl w1.heap.size X.toArray rfl rfl 25 _ (heap_alloc_new w1 _) hszX.out (Eq.trans (by kernel_rfl) h32.out) honeX.out ?_; refine Hid.out ?_))
  refine Lib.hid ?_
  generalize hw4 : World.setRow _ _ _ = w4
  obtain ⟨r4, hb4⟩ := row_new_set (xs := X) hw4
  rw [HX.out] at r4
  have r0 := r0.later hb4 r0.lt
  have hbB := hbA.trans (hb4.mono hbA.size)
  have c1' : w4.cell? ⟨g, 1, none⟩ = some (.pointer (some ⟨go, 0, none⟩)) := by rw [hbB.cell (p := ⟨g, 1, none⟩) hgl]; exact c1
  have hne : w.heap.size < w4.heap.size := r0.lt
  have hrl := r4.lt
  clear hw4 hb4 hbA hb0 c0 c1
  go_wp2_with (first
    | (go_at_call 70; refine (clone_any go KO _ (hdo.later hbB hol)).mono ?_; rintro e w5 ⟨g5, rfl, hg5, hd5, hb5⟩; have r4 := r4.later hb5 r4.lt; have r0 := r0.later hb5 r0.lt; have hbC := hbB.trans (hb5.mono hbB.size))
    | (go_at_call 68; refine (write_at g5 32 KO (shaL KI) (some ⟨w1.heap.size, 0, none⟩) 32 _ (hT.later hbC (Nat.le_refl _)) hd5 ⟨Rd.row (ys := []) (by rw [List.append_nil]; exact r4), by rw [store_tag]; exact Nat.le_refl _, fun h => by cases h⟩ (fun _ a ha => by cases ha; show w1.heap.size ≠ g5; omega) rfl (by rw [HKO.out, length_shaL]; decide)).mono ?_; rintro e w6 ⟨rfl, hd6, hg6⟩; have hbD := hbC.grown hg6 hbC.size (fun k h => by cases h; omega); have r0 := r0.grown hg6 (by omega))
    | (go_at_call 69; have _t := tok2; refine (hsum2.out g5 _ (hT.later hbD (Nat.le_refl _)) hd6).mono ?_; rintro e w7 ⟨rfl, hb7⟩; have R0 := Lib.hid (show w7.heap[w.heap.size]? = some (.cells (List.replicate 32 (Value.int .u8 0)).toArray 25 (0, 0)) from r0.later hb7 r0.lt); clear tok2)
    | ((with_reducible refine wpList_store_row rfl 25 (.tmp 2) (.tmp 19) rfl w.heap.size V.toArray rfl rfl 25 _ R0.out hszV.out hszo.out honeV.out ?_); have HG := Lib.hid (setRow_heap w7 w.heap.size _ V.toArray 25 (0, 0) R0.out))
    | (with_reducible refine bodyPost_ret (results_cell_row rfl _ _ w.heap.size 25 V.toArray (0, 0) (.array 32 5) rfl HG.out Tryd.underlying25 rfl hszV.out) rfl ?_))
  exact ⟨by rw [HV.out], below_setRow (hbD.trans (hb7.mono hbD.size)) (Nat.le_refl _) _⟩
end Go.Proofs.YtcbilopdeiapjaaDoor

/- LAYER 4: package hmac's Of. -/
namespace Go.Proofs.YtcbilopdeiapjaaDoor
set_option maxRecDepth 100000
open Go Go.RowKit

set_option maxRecDepth 100000 in
set_option maxHeartbeats 1000000 in
theorem mof_any (A : Option Addr) (n c : Nat) (K : List UInt8) (B : Option Addr) (m d : Nat) (ps : List Part) (w : World) (hT : Tabs w) (hs : Sl w A c (byts K)) (hn : n = K.length) (hp : Parts w B d ps) (hmn : m = ps.length)
    (hK : K.length ≤ 2305843009213693952) (hm : 64 + (flat ps).length ≤ 2305843009213693952) (hpl : ps.length ≤ 9223372036854775807) :
    Calls Tryd.prog 39 #[.slice A n c, .slice B m d] w fun e w' => e = .returned (.agg (byts (macL K (flat ps))).toArray) ∧ Below w.heap.size w w' := by
  subst hmn
  have hb0 := (Below.refl w.heap.size w).alloc (Nat.le_refl _) (.cells (List.replicate 32 (Value.int .u8 0)).toArray 25)
  have hnew := Lib.hid (mnew_any A n c K _ (hT.later hb0 (Nat.le_refl _)) (hs.later (Nat.le_refl _) hb0) hn hK)
  have HB0 := Lib.hid hb0
  clear hs hn hK hb0
  go_enter Tryd.func39, Tryd.ntmps39
  go_wp2_with (go_at_call 53; refine hnew.out.mono ?_; rintro e w1 ⟨g, gi, go, rfl, hgi, hgo, hd1, hb1⟩; have hbA : Below w.heap.size w w1 := HB0.out.trans (hb1.mono HB0.out.size); have r0 := (Row.new w 25 (List.replicate 32 (.int .u8 0))).later hb1 (Row.new w 25 (List.replicate 32 (.int .u8 0))).lt; rw [World.size_alloc] at hgi hgo; clear hb1 hnew)
  go_loopw [12] (fun i wr => ∃ k : Nat, k ≤ ps.length ∧ i = .int .i64 k ∧ Macd wr g gi go K (flat (ps.take k)) ∧ Row wr w.heap.size 25 (List.replicate 32 (.int .u8 0)) ∧ Below w.heap.size w wr) (fun i _ => ps.length - (intOf i).toNat)
  case atStart => exact ⟨0, by omega, rfl, hd1, r0, hbA⟩
  case round =>
    clear hd1 r0 hbA
    obtain ⟨k, hk, rfl, hd, r0, hb⟩ := hrel
    by_cases hlt : k < ps.length
    · obtain ⟨b, o, hA, _, _⟩ := hp.sl.rd.get (i := 0) (by rw [List.length_map]; omega)
      have hix := index_parts B b o ps.length d k hA hlt
      have hps := hp.later (Nat.le_refl _) hb
      rw [hA] at hps
      have hck := hps.get k hlt
      have hsk := hps.each ps[k] (List.getElem_mem hlt)
      have hsw := hp.each ps[k] (List.getElem_mem hlt)
      have HF := Lib.hid (flat_succ ps k hlt)
      have hfl := flat_le ps (k + 1)
      rw [HF.out, List.length_append] at hfl
      unfold partV at hck
      obtain ⟨⟨Ak, ck, lk⟩, hpk⟩ : ∃ p, p = ps[k] := ⟨_, rfl⟩
      rw [← hpk] at hck hsk hsw HF hfl
      dsimp only at hck hsk hsw HF hfl
      have hml : 64 + (flat (ps.take k)).length + lk.length ≤ 4611686018427387904 := by omega
      have HA := Lib.hid hA
      clear hpk hps hfl hA
      go_wp2_with (go_at_call 54; refine (mwrite_any g gi go lk.length K (flat (ps.take k)) lk Ak ck _ (hT.cu.later hb (Nat.le_refl _)) hd hsk (fun h a ha => by have := hsw.block_lt (by rw [length_byts]; exact h) ha; omega) rfl hml).mono ?_; rintro e w3 ⟨rfl, hd3, hg3⟩)
      have hb3 := hb.grown hg3 hb.size (fun k h => by cases h; omega)
      have r3 := r0.grown hg3 (by omega)
      clear hd hb r0 hg3 hck hsk hsw hix
      go_roundw
      case rel => exact ⟨k + 1, by omega, by go_num, by rw [HF.out]; exact hd3, r3, hb3⟩
      case measure => simp [intOf]; omega
    · rw [flat_all ps k (by omega)] at hd
      have hC := hT.cu.later hb (Nat.le_refl _)
      obtain ⟨V, hVq⟩ : ∃ V, V = byts (macL K (flat ps)) := ⟨_, rfl⟩
      have hsum := Lib.hid (show Calls Tryd.prog 55 #[.pointer (some ⟨g, 0, none⟩)] wr fun e w' => e = .returned (.agg V.toArray) ∧ Below wr.heap.size wr w' by rw [hVq]; exact msum_any g gi go K (flat ps) wr hC hd hm)
      have hVl : V.length = 32 := by rw [hVq]; exact store_tag
      have hone := Lib.hid (all_one (show ∀ v ∈ V, v.oneCell' = true by rw [hVq]; exact byts_one _))
      have hsz := Lib.hid (show (Tryd.prog.info? 25).map (·.size) = some V.toArray.size by rw [size_tag, List.size_toArray, hVl])
      have hszo := Lib.hid (show (List.replicate 32 (Value.int .u8 0)).toArray.size = V.toArray.size by rw [List.size_toArray, List.size_toArray, List.length_replicate, hVl])
      have HV := Lib.hid hVq
      clear hVq hVl hC hd
      go_wp2_with (first
        | (go_at_call 55; refine hsum.out.mono ?_; rintro e w3 ⟨rfl, hb3⟩; have R0 := Lib.hid (show w3.heap[w.heap.size]? = some (.cells (List.replicate 32 (Value.int .u8 0)).toArray 25 (0, 0)) from r0.later hb3 r0.lt))
        | ((with_reducible refine wpList_store_row rfl 25 (.tmp 4) (.tmp 21) rfl w.heap.size V.toArray rfl rfl 25 _ R0.out hsz.out hszo.out hone.out ?_); have HG := Lib.hid (setRow_heap w3 w.heap.size _ V.toArray 25 (0, 0) R0.out))
        | (with_reducible refine bodyPost_ret (results_cell_row rfl _ _ w.heap.size 25 V.toArray (0, 0) (.array 32 5) rfl HG.out Tryd.underlying25 rfl hsz.out) rfl ?_))
      exact ⟨by rw [HV.out], below_setRow (hb.trans (hb3.mono hb.size)) (Nat.le_refl _) _⟩
end Go.Proofs.YtcbilopdeiapjaaDoor

/- LAYER 6: package derive's Key. -/
namespace Go.Proofs.YtcbilopdeiapjaaDoor
set_option maxRecDepth 100000
open Go Go.RowKit

theorem parts_pair {w : World} {A B : Option Addr} {c d : Nat} {l k : List UInt8} (h : Sl w A c (byts l)) (g : Sl w B d (byts k)) :
    Parts (w.alloc (.cells #[.slice A l.length c, .slice B k.length d] 58)) (some ⟨w.heap.size, 0, none⟩) 2 [(A, c, l), (B, d, k)] := by
  have r := Row.new w 58 [.slice A l.length c, .slice B k.length d]
  have hb := (Below.refl w.heap.size w).alloc (Nat.le_refl _) (.cells #[.slice A l.length c, .slice B k.length d] 58)
  refine ⟨⟨Rd.row (ys := []) (by rw [List.append_nil]; exact r), by simp, fun h => by cases h⟩, fun p hp => ?_⟩
  simp only [List.mem_cons, List.not_mem_nil, or_false] at hp
  rcases hp with rfl | rfl
  · exact h.later (Nat.le_refl _) hb
  · exact g.later (Nat.le_refl _) hb
set_option maxRecDepth 100000 in
set_option maxHeartbeats 1000000 in
theorem dkey_any (key : List UInt8) (hk : key.length = 32) (use : List UInt8) (A : Option Addr) (n c : Nat) (ss : List (List UInt8)) (w : World) (hT : Tabs w) (hs : Sl w A c (strsV ss)) (hn : n = ss.length) (hm : sumS (use :: ss) ≤ 1000000000) :
    Calls Tryd.prog 24 #[.agg (byts key).toArray, .string (bstr use), .slice A n c] w fun e w' => e = .returned (.agg (byts (keyD key use ss)).toArray) ∧ Below w.heap.size w w' := by
  subst hn
  have hFl := length_frameL (use :: ss)
  have hm1 : sumS [use] ≤ 1000000000 := by have := sumS_le (use :: ss) 1; rw [show (use :: ss).take 1 = [use] from rfl] at this; omega
  have hm2 : sumS ss ≤ 1000000000 := by have h2 : sumS (use :: ss) = use.length + 1 + sumS ss := rfl; omega
  obtain ⟨K, hK⟩ : ∃ K, K = byts key := ⟨_, rfl⟩
  have HK := Lib.hid hK
  have hKl : K.length = 32 := by rw [hK, length_byts]; exact hk
  obtain ⟨V, hV⟩ : ∃ V, V = byts (keyD key use ss) := ⟨_, rfl⟩
  have hVl : V.length = 32 := by rw [hV, length_byts]; exact length_keyD _ _ _
  have hone := Lib.hid (show ∀ v ∈ V, v.oneCell' = true by rw [hV]; exact byts_one _)
  have hszl := Lib.hid (show (Tryd.prog.info? 25).map (·.size) = some V.length by rw [size_tag, hVl])
  have hsz2 := Lib.hid (show (Tryd.prog.info? 25).map (·.size) = some V.toArray.size by rw [size_tag, List.size_toArray, hVl])
  have hfit := Lib.hid (show 0 + V.length ≤ (List.replicate 32 (Value.int .u8 0)).length by rw [hVl, List.length_replicate]; decide)
  have HVr := Lib.hid (show splice (List.replicate 32 (Value.int .u8 0)) 0 V = V by
    unfold splice
    rw [List.take_zero, List.nil_append, Nat.zero_add, hVl, List.drop_of_length_le (by rw [List.length_replicate]; exact Nat.le_refl _), List.append_nil])
  have hkl := Lib.hid hk
  obtain ⟨F1, hF1⟩ : ∃ F, F = frameL [use] := ⟨_, rfl⟩
  obtain ⟨F2, hF2⟩ : ∃ F, F = frameL ss := ⟨_, rfl⟩
  have hF12 := Lib.hid (show ∀ (A4 A5 : Option Addr) (c4 c5 : Nat), flat [(A4, c4, F1), (A5, c5, F2)] = frameL (use :: ss) by
    intros
    rw [hF1, hF2, show use :: ss = [use] ++ ss from rfl, frameL_append]
    simp [flat])
  have hFm := Lib.hid (show ∀ (A4 A5 : Option Addr) (c4 c5 : Nat), 64 + (flat [(A4, c4, F1), (A5, c5, F2)]).length ≤ 2305843009213693952 by
    intros
    rw [hF12.out _ _ _ _]; omega)
  have hf1 := Lib.hid (show ∀ w1 B d, Sl w1 B d (strsV [use]) → Calls Tryd.prog 40 #[.slice B 1 d] w1 (GaveBytes F1 w1) by
    rw [hF1]
    exact fun w1 B d h => dframe_any B 1 d [use] w1 h rfl hm1)
  have hf2 := Lib.hid (show ∀ w1, Sl w1 A c (strsV ss) → Calls Tryd.prog 40 #[.slice A ss.length c] w1 (GaveBytes F2 w1) by
    rw [hF2]
    exact fun w1 h => dframe_any A ss.length c ss w1 h rfl hm2)
  have HV := Lib.hid (show V = byts (macL key (frameL (use :: ss))) by rw [hV]; rfl)
  have HVD := Lib.hid hV
  rw [← hK]
  clear hV hVl hK hF1 hF2 hFl hk
  go_enter Tryd.func24, Tryd.ntmps24
  go_wp2_with fail
  generalize hw2 : World.alloc (World.alloc w _) _ = w2
  obtain ⟨r0, r1, hb2, _hs2⟩ := two_rows (A := K) (B := List.replicate 32 (.int .u8 0)) hw2
  clear hw2 _hs2
  have hsl2 := hs.later (Nat.le_refl _) hb2
  have hT2 := hT.later hb2 (Nat.le_refl _)
  have hslK : Sl w2 (some ⟨w.heap.size, 0, none⟩) 32 (byts key) := ⟨Rd.row (ys := []) (by rw [List.append_nil, ← HK.out]; exact r0), by rw [length_byts, hkl.out]; exact Nat.le_refl _, fun h => by cases h⟩
  clear r0 hs
  refine wp_region_noPanic ?_
  refine wp_region_held_drew (S := fun _ => True) (by kernel_rfl) (trivial) (fun hHeld => ?_)
  refine rt 0 7 hHeld ?_
  refine rt 1 8 hHeld ?_
  refine rt 4 11 hHeld ?_
  refine rc1 2 fun K hK => ?_
  refine step_alloc (some 9) rfl (by rfl) (.slice (some ⟨w2.heap.size, 0, none⟩) 1 1) (.cells #[.string (bstr use)] 9) (by go_simp) ?_; intro w3 hw3 hb3; have hsu : Sl w3 (some ⟨w2.heap.size, 0, none⟩) 1 (strsV [use]) := (by rw [hw3]; exact ⟨Rd.row (ys := []) (by rw [List.append_nil]; exact Row.new w2.drew 9 (strsV [use])), by rw [length_strsV]; exact Nat.le_refl _, fun h => by cases h⟩); have hb23 : Below w2.heap.size w2 w3 := (Below.refl w2.heap.size w2).drew.trans hb3; clear hw3
  refine rk hK (trivial) fun hHeld => ?_
  clear hK K
  refine rc1 3 fun K hK => ?_
  go_simp
  refine (hf1.out _ _ _ hsu).mono ?_; rintro e w4 ⟨v4, rfl, hown4, hb4⟩; obtain ⟨A4, c4, rfl, _, hsl4⟩ := Sl.of_own hown4; have hb24 := below_step hb23 hb4; clear hown4
  try go_wp2_with fail
  refine hK.out _ _ (trivial) (fun hHeld => ?_)
  clear hK K
  refine rc1 5 fun K hK => ?_
  go_simp
  refine (hf2.out _ (hsl2.later (Nat.le_refl _) hb24)).mono ?_; rintro e w5 ⟨v5, rfl, hown5, hb5⟩; obtain ⟨A5, c5, rfl, _, hsl5⟩ := Sl.of_own hown5; have hb25 := below_step hb24 hb5; clear hown5
  try go_wp2_with fail
  refine hK.out _ _ (trivial) (fun hHeld => ?_)
  clear hK K
  refine rc1 6 fun K hK => ?_
  refine step_alloc (some 13) rfl (by rfl) (.slice (some ⟨w5.heap.size, 0, none⟩) 2 2) (.cells #[.slice A4 F1.length c4, .slice A5 F2.length c5] 58) (by go_simp) ?_; intro w6 hw6 hb6; have hpt : Parts w6 (some ⟨w5.heap.size, 0, none⟩) 2 [(A4, c4, F1), (A5, c5, F2)] := (by rw [hw6]; exact parts_pair (hsl4.later (Nat.le_refl _) hb5) hsl5); have hb26 := below_step hb25 hb6; clear hw6
  refine rk hK (trivial) fun hHeld => ?_
  clear hK K
  refine rc1 7 fun K hK => ?_
  go_simp
  refine (mof_any (some ⟨w.heap.size, 0, none⟩) 32 32 key (some ⟨w5.heap.size, 0, none⟩) 2 2 [(A4, c4, F1), (A5, c5, F2)] _ (hT2.later hb26 (Nat.le_refl _)) (hslK.later (Nat.le_refl _) hb26) hkl.out.symm hpt rfl (by rw [hkl.out]; decide) (hFm.out _ _ _ _) (by simp)).mono ?_; rintro e w7 ⟨rfl, hb7⟩; have hb27 := below_step hb26 hb7; rw [hF12.out _ _ _ _, ← HV.out]
  try go_wp2_with fail
  refine hK.out _ _ (trivial) (fun hHeld => ?_)
  clear hK K
  refine rc1 8 fun K hK => ?_
  refine step_store_row none rfl (by rfl) 25 (.tmp 6) (.tmp 14) rfl (w.heap.size + 1) 0 25 _ V rfl rfl (r1.later hb27 r1.lt) hfit.out hszl.out hone.out ?_; intro w9 r9 hg9
  refine hK.out _ _ (trivial) (fun _ => ?_)
  clear hK K
  rw [put_none]
  refine wpAnyH_done (by kernel_rfl) ?_ _
  refine NoPanic.normal ?_
  have r9 : Row w9 (w.heap.size + 1) 25 V := by rw [HVr.out] at r9; exact r9
  have hb9 := (hb2.trans (hb27.mono hb2.size)).grown hg9 (Nat.le_trans hb2.size hb27.size) (fun k h => by cases h; omega)
  have R9 := Lib.hid (show w9.heap[w.heap.size + 1]? = some (.cells V.toArray 25 (0, 0)) from r9)
  clear r9 hg9 r1 hslK hsl2 hsu hsl4 hsl5 hpt hb3 hb4 hb5 hb6 hb7 hb23 hb24 hb25 hb26 hb27 hb2
  go_wp2_with (with_reducible refine bodyPost_ret (results_cell_row rfl _ _ (w.heap.size + 1) 25 V.toArray (0, 0) (.array 32 5) rfl R9.out Tryd.underlying25 rfl hsz2.out) rfl ?_)
  exact ⟨by rw [HVD.out], hb9⟩
end Go.Proofs.YtcbilopdeiapjaaDoor
