import Derived.Test.YtjieebmcbpdeiaaGreatDoorRaaz
import Derived.Test.YtjieebmcbpdeiaaGreatDoorRaaa
import Derived.Test.YtjieebmcbpdeiaaGreatDoorRaai
import Derived.Test.YtjieebmcbpdeiaaGreatDoorRaag
import Derived.Deep.Slices
import Derived.ChangeSame
import Derived.Laws.Cover2
import Derived.Test.YtjieebmcbpdeiaaGreatDoorRaao
namespace Go.Proofs.YtjieebmcbpdeiaaGreatDoor
set_option maxRecDepth 100000
open Go Go.RowKit
theorem told_len17 (p : Prd) (ho : p.Ok) (hp : p.path.length ≤ 4000) (hs : sumS p.names ≤ 4000) : (toldP p).1.length ≤ 6 ∧ (toldP p).2.length ≤ 4000 := by
 have h1 : (numL 10 p.time).length ≤ 4000 := by have := numL_len20 p.time ho.time; omega
 have h3 : (joinL16 p.names).length ≤ 4000 := by
  have := glue_len 44 p.names
  unfold joinL16
  split
  ·omega
  ·simp
 have h5 : (textR p.net).length ≤ 4000 := by
  unfold textR
  split
  ·rename_i hc
   have h1 := textA_len p.net.a
   have h2 := checkR_lim p.net hc
   have h3 := numL_len20 p.net.n.toNat (by omega)
   rw [List.length_append, List.length_cons]; omega
  ·simp
 have h6 : (textC p.cost).length ≤ 4000 := by have := text_len p.cost; omega
 unfold toldP
 repeat' split
 all_goals first | exact ⟨by dsimp only; decide, h1⟩ | exact ⟨by dsimp only; decide, h3⟩ | exact ⟨by dsimp only; decide, hp⟩ | exact ⟨by dsimp only; decide, h5⟩ | exact ⟨by dsimp only; decide, h6⟩ | exact ⟨by simp, by simp⟩
set_option maxHeartbeats 1000000 in
theorem ptext_no (p : Prd) (A : Option Addr) (c : Nat) (w : World) (h : PrdAt w p A c) (hE : EnvQ w) (hp : parseP ((toldP p).1 ++ 32 :: (toldP p).2) = none) (HX : textP p = []) :
  Calls Tryz.prog 20 #[.agg (prdV p A c).toArray] w fun e w' => e = .returned (.string (bstr (textP p))) ∧ Below w.heap.size w w' := by
 have r1 : Row (w.alloc (.cells (prdV p A c).toArray 31)) w.heap.size 31 (prdV p A c) := Row.new w _ _
 have hb1 : Below w.heap.size w (w.alloc (.cells (prdV p A c).toArray 31)) := (Below.refl _ w).alloc (Nat.le_refl _) _
 obtain ⟨w1, hw1⟩ : ∃ w1, w1 = w.alloc (.cells (prdV p A c).toArray 31) := ⟨_, rfl⟩
 rw [← hw1] at r1 hb1
 have h1 := h.later (Nat.le_refl _) hb1
 have hE1 := hE.next hb1
 have HW := Lib.hid hw1
 have tok1 : True := trivial
 have tok2 : True := trivial
 obtain ⟨la, lb⟩ := told_len17 p h.ok h.path h.sum
 have hsz := Lib.hid (show (Tryz.prog.info? 31).map (·.size) = some (prdV p A c).length by rw [length_prdV p h.ok.net.a]; exact size_prd)
 have hwd := Lib.hid (ptold_any p A c w1 h1 hE1)
 have hpr := fun w' hh => pparse17_any ((toldP p).1 ++ 32 :: (toldP p).2) (by rw [List.length_append, List.length_cons]; omega) w' hh
 unfold GavePrd at hpr
 rw [hp] at hpr
 have hpr : ∀ w', EnvQ w' → Calls Tryz.prog 21 #[.string (bstr ((toldP p).1 ++ 32 :: (toldP p).2))] w' fun e w'' => ∃ (A : Option Addr) (c : Nat), e = .returned (.tuple #[.agg (prdV zeroP A c).toArray, .bool false]) ∧ PrdAt w'' zeroP A c ∧ Below w'.heap.size w' w'' := hpr
 have HX := Lib.hid HX
 clear hp
 clear hw1 h hE
 have hcat := cat_blank17 (toldP p).1 (toldP p).2
 have hpr := Lib.hid hpr
 generalize (toldP p).1 = a at *
 generalize (toldP p).2 = b at *
 have hza := size_bstr a
 have hzb := size_bstr b
 have a3 : (bstr a ++ ({ data := #[32] } : ByteArray)).size = a.length + 1 := by rw [show ({ data := #[32] } : ByteArray) = bstr [32] from rfl, bstr_cat12, size_bstr]; simp
 have a4 : ({ data := #[32] } : ByteArray).size = 1 := rfl
 have K1 := Lib.hid (row_range r1)
 obtain ⟨X, hX⟩ : ∃ X, X = prdV p A c := ⟨_, rfl⟩
 rw [← hX] at hsz hwd r1 K1 HW ⊢
 clear hX
 go_enter Tryz.func20, Tryz.ntmps20
 go_wp2_with (first
  | (have _t := tok1; rw [← HW.out]; clear tok1)
  | (have _t := tok2; with_reducible refine wpList_load_mid rfl 31 (.tmp 1) rfl w.heap.size 0 rfl X _ K1.out Tryz.underlying31 rfl hsz.out ?_; clear tok2)
  | (go_at_call 49; refine hwd.out.mono ?_; rintro e w2 ⟨rfl, hq2⟩; have r2 := r1.later hq2 r1.lt; have hb2 := hb1.trans (hq2.mono hb1.size); have h2 := h1.later (Nat.le_refl _) hq2; have hE2 := hE1.next hq2; clear r1 h1 hE1 hq2)
  | (go_at_call 21; refine (hpr.out _ hE2).mono ?_; rintro e w3 ⟨A', c', rfl, hpv, hq3⟩; have r3 := r2.later hq3 r2.lt; have hb3 := hb2.trans (hq3.mono hb2.size); have h3 := h2.later (Nat.le_refl _) hq3; have hE3 := hE2.next hq3; clear r2 h2 hE2 hq3; refine Hid.out ?_))
 refine Lib.hid ?_
 clear hwd hpr hcat hza hzb a3 a4
 have hVl0 := length_prdV zeroP hpv.ok.net.a A' c'
 have hV1 := Lib.hid (prdV_one zeroP A' c')
 obtain ⟨V, hV⟩ : ∃ V, V = prdV zeroP A' c' := ⟨_, rfl⟩
 rw [← hV] at hVl0 hV1
 try rw [← hV]
 have HV := Lib.hid hV
 have hVl := Lib.hid (show (Tryz.prog.info? 31).map (·.size) = some V.length by rw [hVl0]; exact size_prd)
 have hVz := Lib.hid (show (Tryz.prog.info? 31).map (·.size) = some V.toArray.size by rw [List.size_toArray, hVl0]; exact size_prd)
 have hV23 := Lib.hid (show 23 = V.toArray.size by rw [List.size_toArray, hVl0])
 have HPV := Lib.hid hpv
 have H3 := Lib.hid h3
 clear hV hVl0 hpv h3
 go_wp2_with (first
  | (have _t := HPV; refine wpList_store_row rfl 31 (.tmp 6) (.tmp 20) rfl w3.heap.size V.toArray rfl rfl 31 _ (heap_alloc_new w3 _) hVz.out hV23.out hV1.out ?_; refine Hid.out ?_))
 refine Lib.hid ?_
 generalize hw4 : World.setRow _ _ _ = w4
 obtain ⟨r4, hq4⟩ := row_new_set (xs := V) hw4
 have hb4 := hb3.trans (hq4.mono hb3.size)
 have r3 := r3.later hq4 r3.lt
 have K3 := Lib.hid (row_range r3)
 have K4 := Lib.hid (row_range r4)
 have hE4 := hE3.next hq4
 clear hw4 hq4 r3 r4 hE3 hE4 hb3 H3 HPV
 generalize w3.heap.size = g at *
 go_wp2
 go_ret
 exact ⟨by rw [HX.out]; rfl, hb4⟩
set_option maxHeartbeats 1000000 in
theorem ptext_off (p : Prd) (q : Prd) (A : Option Addr) (c : Nat) (w : World) (h : PrdAt w p A c) (hE : EnvQ w) (hp : parseP ((toldP p).1 ++ 32 :: (toldP p).2) = some q) (hs : sameP q p = false) (HX : textP p = []) :
  Calls Tryz.prog 20 #[.agg (prdV p A c).toArray] w fun e w' => e = .returned (.string (bstr (textP p))) ∧ Below w.heap.size w w' := by
 have r1 : Row (w.alloc (.cells (prdV p A c).toArray 31)) w.heap.size 31 (prdV p A c) := Row.new w _ _
 have hb1 : Below w.heap.size w (w.alloc (.cells (prdV p A c).toArray 31)) := (Below.refl _ w).alloc (Nat.le_refl _) _
 obtain ⟨w1, hw1⟩ : ∃ w1, w1 = w.alloc (.cells (prdV p A c).toArray 31) := ⟨_, rfl⟩
 rw [← hw1] at r1 hb1
 have h1 := h.later (Nat.le_refl _) hb1
 have hE1 := hE.next hb1
 have HW := Lib.hid hw1
 have tok1 : True := trivial
 have tok2 : True := trivial
 obtain ⟨la, lb⟩ := told_len17 p h.ok h.path h.sum
 have hsz := Lib.hid (show (Tryz.prog.info? 31).map (·.size) = some (prdV p A c).length by rw [length_prdV p h.ok.net.a]; exact size_prd)
 have hwd := Lib.hid (ptold_any p A c w1 h1 hE1)
 have hpr := fun w' hh => pparse17_any ((toldP p).1 ++ 32 :: (toldP p).2) (by rw [List.length_append, List.length_cons]; omega) w' hh
 unfold GavePrd at hpr
 rw [hp] at hpr
 have hpr : ∀ w', EnvQ w' → Calls Tryz.prog 21 #[.string (bstr ((toldP p).1 ++ 32 :: (toldP p).2))] w' fun e w'' => ∃ (A : Option Addr) (c : Nat), e = .returned (.tuple #[.agg (prdV q A c).toArray, .bool true]) ∧ PrdAt w'' q A c ∧ Below w'.heap.size w' w'' := hpr
 have HX := Lib.hid HX
 clear hp
 clear hw1 h hE
 have hcat := cat_blank17 (toldP p).1 (toldP p).2
 have hpr := Lib.hid hpr
 generalize (toldP p).1 = a at *
 generalize (toldP p).2 = b at *
 have hza := size_bstr a
 have hzb := size_bstr b
 have a3 : (bstr a ++ ({ data := #[32] } : ByteArray)).size = a.length + 1 := by rw [show ({ data := #[32] } : ByteArray) = bstr [32] from rfl, bstr_cat12, size_bstr]; simp
 have a4 : ({ data := #[32] } : ByteArray).size = 1 := rfl
 have K1 := Lib.hid (row_range r1)
 obtain ⟨X, hX⟩ : ∃ X, X = prdV p A c := ⟨_, rfl⟩
 rw [← hX] at hsz hwd r1 K1 HW ⊢
 have HXX := Lib.hid hX
 clear hX
 go_enter Tryz.func20, Tryz.ntmps20
 go_wp2_with (first
  | (have _t := tok1; rw [← HW.out]; clear tok1)
  | (have _t := tok2; with_reducible refine wpList_load_mid rfl 31 (.tmp 1) rfl w.heap.size 0 rfl X _ K1.out Tryz.underlying31 rfl hsz.out ?_; clear tok2)
  | (go_at_call 49; refine hwd.out.mono ?_; rintro e w2 ⟨rfl, hq2⟩; have r2 := r1.later hq2 r1.lt; have hb2 := hb1.trans (hq2.mono hb1.size); have h2 := h1.later (Nat.le_refl _) hq2; have hE2 := hE1.next hq2; clear r1 h1 hE1 hq2)
  | (go_at_call 21; refine (hpr.out _ hE2).mono ?_; rintro e w3 ⟨A', c', rfl, hpv, hq3⟩; have r3 := r2.later hq3 r2.lt; have hb3 := hb2.trans (hq3.mono hb2.size); have h3 := h2.later (Nat.le_refl _) hq3; have hE3 := hE2.next hq3; clear r2 h2 hE2 hq3; refine Hid.out ?_))
 refine Lib.hid ?_
 clear hwd hpr hcat hza hzb a3 a4
 have hVl0 := length_prdV q hpv.ok.net.a A' c'
 have hV1 := Lib.hid (prdV_one q A' c')
 obtain ⟨V, hV⟩ : ∃ V, V = prdV q A' c' := ⟨_, rfl⟩
 rw [← hV] at hVl0 hV1
 try rw [← hV]
 have HV := Lib.hid hV
 have hVl := Lib.hid (show (Tryz.prog.info? 31).map (·.size) = some V.length by rw [hVl0]; exact size_prd)
 have hVz := Lib.hid (show (Tryz.prog.info? 31).map (·.size) = some V.toArray.size by rw [List.size_toArray, hVl0]; exact size_prd)
 have hV23 := Lib.hid (show 23 = V.toArray.size by rw [List.size_toArray, hVl0])
 have HPV := Lib.hid hpv
 have H3 := Lib.hid h3
 clear hV hVl0 hpv h3
 go_wp2_with (first
  | (have _t := HPV; refine wpList_store_row rfl 31 (.tmp 6) (.tmp 20) rfl w3.heap.size V.toArray rfl rfl 31 _ (heap_alloc_new w3 _) hVz.out hV23.out hV1.out ?_; refine Hid.out ?_))
 refine Lib.hid ?_
 generalize hw4 : World.setRow _ _ _ = w4
 obtain ⟨r4, hq4⟩ := row_new_set (xs := V) hw4
 have hb4 := hb3.trans (hq4.mono hb3.size)
 have r3 := r3.later hq4 r3.lt
 have K3 := Lib.hid (row_range r3)
 have K4 := Lib.hid (row_range r4)
 have hE4 := hE3.next hq4
 have hpa := HPV.out.later (Nat.le_refl _) hq4
 have hpp := H3.out.later (Nat.le_refl _) hq4
 have hsm := psame17_any q p A' A c' c w4 hpa hpp
 rw [hs, ← HV.out] at hsm
 rw [← HXX.out] at hsm
 have hsm := Lib.hid hsm
 clear hw4 hq4 r3 r4 hE3 hE4 hb3 H3 HPV hpa hpp hs
 generalize w3.heap.size = g at *
 go_wp2_with (first
  | (with_reducible refine wpList_open (d := some 25) ?_ ?_; kernel_rfl; with_reducible refine wpList_load_mid rfl 31 (.tmp 6) rfl g 0 rfl V _ K4.out Tryz.underlying31 rfl hVl.out ?_)
  | (with_reducible refine wpList_open (d := some 26) ?_ ?_; kernel_rfl; with_reducible refine wpList_load_mid rfl 31 (.tmp 1) rfl w.heap.size 0 rfl X _ K3.out Tryz.underlying31 rfl hsz.out ?_)
  | (go_at_call 50; refine hsm.out.mono ?_; rintro e w5 ⟨rfl, hq5⟩; have hb5 := hb4.trans (hq5.mono hb4.size)))
 go_ret
 exact ⟨by rw [HX.out]; rfl, hb5⟩
set_option maxHeartbeats 1000000 in
theorem ptext_hit (p : Prd) (q : Prd) (A : Option Addr) (c : Nat) (w : World) (h : PrdAt w p A c) (hE : EnvQ w) (hp : parseP ((toldP p).1 ++ 32 :: (toldP p).2) = some q) (hs : sameP q p = true) (HX : textP p = (toldP p).1 ++ 32 :: (toldP p).2) :
  Calls Tryz.prog 20 #[.agg (prdV p A c).toArray] w fun e w' => e = .returned (.string (bstr (textP p))) ∧ Below w.heap.size w w' := by
 have r1 : Row (w.alloc (.cells (prdV p A c).toArray 31)) w.heap.size 31 (prdV p A c) := Row.new w _ _
 have hb1 : Below w.heap.size w (w.alloc (.cells (prdV p A c).toArray 31)) := (Below.refl _ w).alloc (Nat.le_refl _) _
 obtain ⟨w1, hw1⟩ : ∃ w1, w1 = w.alloc (.cells (prdV p A c).toArray 31) := ⟨_, rfl⟩
 rw [← hw1] at r1 hb1
 have h1 := h.later (Nat.le_refl _) hb1
 have hE1 := hE.next hb1
 have HW := Lib.hid hw1
 have tok1 : True := trivial
 have tok2 : True := trivial
 obtain ⟨la, lb⟩ := told_len17 p h.ok h.path h.sum
 have hsz := Lib.hid (show (Tryz.prog.info? 31).map (·.size) = some (prdV p A c).length by rw [length_prdV p h.ok.net.a]; exact size_prd)
 have hwd := Lib.hid (ptold_any p A c w1 h1 hE1)
 have hpr := fun w' hh => pparse17_any ((toldP p).1 ++ 32 :: (toldP p).2) (by rw [List.length_append, List.length_cons]; omega) w' hh
 unfold GavePrd at hpr
 rw [hp] at hpr
 have hpr : ∀ w', EnvQ w' → Calls Tryz.prog 21 #[.string (bstr ((toldP p).1 ++ 32 :: (toldP p).2))] w' fun e w'' => ∃ (A : Option Addr) (c : Nat), e = .returned (.tuple #[.agg (prdV q A c).toArray, .bool true]) ∧ PrdAt w'' q A c ∧ Below w'.heap.size w' w'' := hpr
 have HX := Lib.hid HX
 clear hp
 clear hw1 h hE
 have hcat := cat_blank17 (toldP p).1 (toldP p).2
 have hpr := Lib.hid hpr
 generalize (toldP p).1 = a at *
 generalize (toldP p).2 = b at *
 have hza := size_bstr a
 have hzb := size_bstr b
 have a3 : (bstr a ++ ({ data := #[32] } : ByteArray)).size = a.length + 1 := by rw [show ({ data := #[32] } : ByteArray) = bstr [32] from rfl, bstr_cat12, size_bstr]; simp
 have a4 : ({ data := #[32] } : ByteArray).size = 1 := rfl
 have K1 := Lib.hid (row_range r1)
 obtain ⟨X, hX⟩ : ∃ X, X = prdV p A c := ⟨_, rfl⟩
 rw [← hX] at hsz hwd r1 K1 HW ⊢
 have HXX := Lib.hid hX
 clear hX
 go_enter Tryz.func20, Tryz.ntmps20
 go_wp2_with (first
  | (have _t := tok1; rw [← HW.out]; clear tok1)
  | (have _t := tok2; with_reducible refine wpList_load_mid rfl 31 (.tmp 1) rfl w.heap.size 0 rfl X _ K1.out Tryz.underlying31 rfl hsz.out ?_; clear tok2)
  | (go_at_call 49; refine hwd.out.mono ?_; rintro e w2 ⟨rfl, hq2⟩; have r2 := r1.later hq2 r1.lt; have hb2 := hb1.trans (hq2.mono hb1.size); have h2 := h1.later (Nat.le_refl _) hq2; have hE2 := hE1.next hq2; clear r1 h1 hE1 hq2)
  | (go_at_call 21; refine (hpr.out _ hE2).mono ?_; rintro e w3 ⟨A', c', rfl, hpv, hq3⟩; have r3 := r2.later hq3 r2.lt; have hb3 := hb2.trans (hq3.mono hb2.size); have h3 := h2.later (Nat.le_refl _) hq3; have hE3 := hE2.next hq3; clear r2 h2 hE2 hq3; refine Hid.out ?_))
 refine Lib.hid ?_
 clear hwd hpr hcat hza hzb a3 a4
 have hVl0 := length_prdV q hpv.ok.net.a A' c'
 have hV1 := Lib.hid (prdV_one q A' c')
 obtain ⟨V, hV⟩ : ∃ V, V = prdV q A' c' := ⟨_, rfl⟩
 rw [← hV] at hVl0 hV1
 try rw [← hV]
 have HV := Lib.hid hV
 have hVl := Lib.hid (show (Tryz.prog.info? 31).map (·.size) = some V.length by rw [hVl0]; exact size_prd)
 have hVz := Lib.hid (show (Tryz.prog.info? 31).map (·.size) = some V.toArray.size by rw [List.size_toArray, hVl0]; exact size_prd)
 have hV23 := Lib.hid (show 23 = V.toArray.size by rw [List.size_toArray, hVl0])
 have HPV := Lib.hid hpv
 have H3 := Lib.hid h3
 clear hV hVl0 hpv h3
 go_wp2_with (first
  | (have _t := HPV; refine wpList_store_row rfl 31 (.tmp 6) (.tmp 20) rfl w3.heap.size V.toArray rfl rfl 31 _ (heap_alloc_new w3 _) hVz.out hV23.out hV1.out ?_; refine Hid.out ?_))
 refine Lib.hid ?_
 generalize hw4 : World.setRow _ _ _ = w4
 obtain ⟨r4, hq4⟩ := row_new_set (xs := V) hw4
 have hb4 := hb3.trans (hq4.mono hb3.size)
 have r3 := r3.later hq4 r3.lt
 have K3 := Lib.hid (row_range r3)
 have K4 := Lib.hid (row_range r4)
 have hE4 := hE3.next hq4
 have hpa := HPV.out.later (Nat.le_refl _) hq4
 have hpp := H3.out.later (Nat.le_refl _) hq4
 have hsm := psame17_any q p A' A c' c w4 hpa hpp
 rw [hs, ← HV.out] at hsm
 rw [← HXX.out] at hsm
 have hsm := Lib.hid hsm
 clear hw4 hq4 r3 r4 hE3 hE4 hb3 H3 HPV hpa hpp hs
 generalize w3.heap.size = g at *
 go_wp2_with (first
  | (with_reducible refine wpList_open (d := some 25) ?_ ?_; kernel_rfl; with_reducible refine wpList_load_mid rfl 31 (.tmp 6) rfl g 0 rfl V _ K4.out Tryz.underlying31 rfl hVl.out ?_)
  | (with_reducible refine wpList_open (d := some 26) ?_ ?_; kernel_rfl; with_reducible refine wpList_load_mid rfl 31 (.tmp 1) rfl w.heap.size 0 rfl X _ K3.out Tryz.underlying31 rfl hsz.out ?_)
  | (go_at_call 50; refine hsm.out.mono ?_; rintro e w5 ⟨rfl, hq5⟩; have hb5 := hb4.trans (hq5.mono hb4.size)))
 go_ret
 exact ⟨by rw [HX.out, ← cat_blank17]; rfl, hb5⟩
theorem ptext17_any (p : Prd) (A : Option Addr) (c : Nat) (w : World) (h : PrdAt w p A c) (hE : EnvQ w) :
  Calls Tryz.prog 20 #[.agg (prdV p A c).toArray] w fun e w' => e = .returned (.string (bstr (textP p))) ∧ Below w.heap.size w w' := by
 cases hp : parseP ((toldP p).1 ++ 32 :: (toldP p).2) with
 | none => exact ptext_no p A c w h hE hp (text_miss p h.ok (by rw [hp]; simp))
 | some q =>
  cases hs : sameP q p with
  | false => exact ptext_off p q A c w h hE hp hs (text_miss p h.ok (by rw [hp]; intro e; rw [(sameP_iff q p).2 (Option.some.inj e)] at hs; cases hs))
  | true => exact ptext_hit p q A c w h hE hp hs (text_hit p (by rw [hp, (sameP_iff q p).1 hs]))
set_option maxHeartbeats 1000000 in
theorem pcheck17_any (p : Prd) (A : Option Addr) (c : Nat) (w : World) (h : PrdAt w p A c) (hE : EnvQ w) :
  Calls Tryz.prog 19 #[.agg (prdV p A c).toArray] w fun e w' => e = .returned (.bool (!decide (textP p = []))) ∧ Below w.heap.size w w' := by
 have r1 : Row (w.alloc (.cells (prdV p A c).toArray 31)) w.heap.size 31 (prdV p A c) := Row.new w _ _
 have hb1 : Below w.heap.size w (w.alloc (.cells (prdV p A c).toArray 31)) := (Below.refl _ w).alloc (Nat.le_refl _) _
 have h1 := h.later (Nat.le_refl _) hb1
 have hsz := Lib.hid (show (Tryz.prog.info? 31).map (·.size) = some (prdV p A c).length by rw [length_prdV p h.ok.net.a]; exact size_prd)
 have K0 := Lib.hid (row_range r1)
 have htx := Lib.hid (ptext17_any p A c _ h1 (hE.next hb1))
 have e1 := bstr_empty17 (textP p)
 generalize textP p = V at *
 clear h1 h r1 hE
 generalize prdV p A c = X at *
 by_cases c1 : V = []
 ·rw [decide_eq_true c1] at e1 ⊢
  clear c1
  go_enter Tryz.func19, Tryz.ntmps19
  go_wp2_with (first
   | (with_reducible refine wpList_load_mid rfl 31 (.tmp 1) rfl w.heap.size 0 rfl X _ K0.out Tryz.underlying31 rfl hsz.out ?_)
   | (go_at_call 20; refine htx.out.mono ?_; rintro e w2 ⟨rfl, hq⟩; have hb2 := hb1.trans (hq.mono hb1.size)))
  go_ret
  exact ⟨rfl, hb2⟩
 ·rw [decide_eq_false c1] at e1 ⊢
  clear c1
  go_enter Tryz.func19, Tryz.ntmps19
  go_wp2_with (first
   | (with_reducible refine wpList_load_mid rfl 31 (.tmp 1) rfl w.heap.size 0 rfl X _ K0.out Tryz.underlying31 rfl hsz.out ?_)
   | (go_at_call 20; refine htx.out.mono ?_; rintro e w2 ⟨rfl, hq⟩; have hb2 := hb1.trans (hq.mono hb1.size)))
  go_ret
  exact ⟨rfl, hb2⟩
open Go.ChangeShapes Go.WideShapes Go.ChangeAt Go.RowKit
structure PrdArg (w : World) (p : Prd) (A : Option Addr) (c : Nat) : Prop where
 ok : p.Ok
 names : Sl w A c (strsV p.names)
 lo : -9223372036854775808 ≤ p.kind
 hi : p.kind ≤ 9223372036854775807
 path : p.path.length ≤ 140737488351232
 many : p.names.length ≤ 9223372036854775807
 each : ∀ l ∈ p.names, l.length ≤ 140737488351232
theorem cells_prd : Tryz.prog.cellsOf 31 = 23 := by kernel_rfl
theorem cells_rng17 : Tryz.prog.cellsOf 28 = 18 := by kernel_rfl
theorem cells_adr17 : Tryz.prog.cellsOf 26 = 17 := by kernel_rfl
theorem cells_16 : Tryz.prog.cellsOf 24 = 16 := by kernel_rfl
theorem cells_int17 : Tryz.prog.cellsOf 3 = 1 := by kernel_rfl
theorem cells_u64_17 : Tryz.prog.cellsOf 22 = 1 := by kernel_rfl
theorem cells_u8_17 : Tryz.prog.cellsOf 5 = 1 := by kernel_rfl
theorem cells_bool17 : Tryz.prog.cellsOf 4 = 1 := by kernel_rfl
theorem cells_strs17 : Tryz.prog.cellsOf 23 = 1 := by kernel_rfl
theorem cells_f64_17 : Tryz.prog.cellsOf 29 = 1 := by kernel_rfl
section
variable {H : Type} {enc : TypeId × Value → H} {W : World} {held : Bool} {b1 : Nat}
theorem len2 {α : Type} (l : List α) (h : l.length = 2) : ∃ a b, l = [a, b] := by
 match l, h with
 | [a, b], _ => exact ⟨a, b, rfl⟩
theorem len6 {α : Type} (l : List α) (h : l.length = 6) : ∃ a b c d e f, l = [a, b, c, d, e, f] := by
 match l, h with
 | [a, b, c, d, e, f], _ => exact ⟨a, b, c, d, e, f, rfl⟩
theorem open_bytes16 {n : Nat} {cs : List Value} {x : DataW H × List MemPlace} (h : DataW.trod enc Tryz.prog W b1 (fun _ => true) held n 24 cs = some x) : ∃ l : List UInt8, l.length = 16 ∧ cs = byts l := by
 obtain ⟨xs, m, _, _, hcl, hxl, hf⟩ := DataW.trod_array Tryz.underlying24 h
 rw [cells_16] at hcl
 have hel : ∀ i, i < cs.length → ∃ z, cs[i]? = some (.int .u8 z) ∧ (Lit.int .u8 z).wf = true := by
  intro i hi
  have h1 := hf i (by omega)
  rw [cells_u8_17, List.getElem?_eq_getElem (by omega)] at h1
  obtain ⟨z, hc, _, hw⟩ := DataW.trod_int Tryz.underlying5 h1
  refine ⟨z, ?_, hw⟩
  have := congrArg (·[0]?) hc
  simpa [List.getElem?_take, List.getElem?_drop] using this
 obtain ⟨zs, h1, h2, h3⟩ := ints_of_list (k := .u8) cs hel
 obtain ⟨l, q1, q2⟩ := bytes_of_ints zs (fun j hj => bounds_u8 (h3 j (by omega)))
 exact ⟨l, by omega, by rw [h2, q2]⟩
theorem open_adr17 {n : Nat} {cs : List Value} {x : DataW H × List MemPlace} (h : DataW.trod enc Tryz.prog W b1 (fun _ => true) held n 26 cs = some x) : ∃ a : Adr, a.Ok ∧ cs = adrV a := by
 obtain ⟨xs, m, _, rfl, hcl, hxl, hf⟩ := DataW.trod_struct Tryz.underlying26 h
 rw [cells_adr17] at hcl
 obtain ⟨y0, y1, rfl⟩ := len2 xs hxl
 have g0 : DataW.trod enc Tryz.prog W b1 (fun _ => true) held m 4 ((cs.drop 0).take (Tryz.prog.cellsOf 4)) = some y0 := hf 0 _ rfl
 have g1 : DataW.trod enc Tryz.prog W b1 (fun _ => true) held m 24 ((cs.drop 1).take (Tryz.prog.cellsOf 24)) = some y1 := hf 1 _ rfl
 rw [cells_bool17] at g0
 rw [cells_16, List.take_of_length_le (by rw [List.length_drop]; omega)] at g1
 obtain ⟨b, e0, _⟩ := DataW.trod_bool Tryz.underlying4 g0
 obtain ⟨l, hl, e1⟩ := open_bytes16 g1
 refine ⟨⟨b, l⟩, hl, ?_⟩
 have e : cs = (cs.drop 0).take 1 ++ cs.drop 1 := by rw [List.drop_zero, List.take_append_drop]
 rw [e, e0, e1]; rfl
theorem open_rng17 {n : Nat} {cs : List Value} {x : DataW H × List MemPlace} (h : DataW.trod enc Tryz.prog W b1 (fun _ => true) held n 28 cs = some x) : ∃ r : Rng, r.Ok ∧ cs = rngV r := by
 obtain ⟨xs, m, _, rfl, hcl, hxl, hf⟩ := DataW.trod_struct Tryz.underlying28 h
 rw [cells_rng17] at hcl
 obtain ⟨y0, y1, rfl⟩ := len2 xs hxl
 have g0 : DataW.trod enc Tryz.prog W b1 (fun _ => true) held m 26 ((cs.drop 0).take (Tryz.prog.cellsOf 26)) = some y0 := hf 0 _ rfl
 have g1 : DataW.trod enc Tryz.prog W b1 (fun _ => true) held m 3 ((cs.drop 17).take (Tryz.prog.cellsOf 3)) = some y1 := hf 1 _ rfl
 rw [cells_adr17] at g0
 rw [cells_int17, List.take_of_length_le (by rw [List.length_drop]; omega)] at g1
 obtain ⟨a, ha, e0⟩ := open_adr17 g0
 obtain ⟨z, e1, _, hwf⟩ := DataW.trod_int Tryz.underlying3 g1
 have hb := bounds_i64 hwf
 refine ⟨⟨a, z⟩, ⟨ha, hb.1, by show z ≤ _; omega⟩, ?_⟩
 have e : cs = (cs.drop 0).take 17 ++ cs.drop 17 := by rw [List.drop_zero, List.take_append_drop]
 rw [e, e0, e1]; rfl
theorem open_f64_17 {n : Nat} {cs : List Value} {x : DataW H × List MemPlace} (h : DataW.trod enc Tryz.prog W b1 (fun _ => true) held n 29 cs = some x) : ∃ b : Nat, cs = [.float .f64 b] ∧ b < 2 ^ 64 := by
 cases n with
 | zero => simp [DataW.trod] at h
 | succ n =>
  unfold DataW.trod at h
  rw [Tryz.underlying29] at h
  split at h <;> simp_all
  rename_i k k' b hk
  subst hk
  obtain ⟨⟨-, h⟩, -⟩ := h
  exact of_decide_eq_true h
theorem open_strs17 {n : Nat} {cs : List Value} {x : DataW H × List MemPlace} (h : DataW.trod enc Tryz.prog W b1 (fun _ => true) held n 23 cs = some x) (hsz : ∀ k ∈ x.1.weights Tryz.prog 23, k ≤ reachBytes) :
  ∃ (A : Option Addr) (c : Nat) (ss : List (List UInt8)), cs = [.slice A ss.length c] ∧ Sl W A c (strsV ss) ∧ ss.length ≤ 9223372036854775807 ∧ ∀ l ∈ ss, l.length ≤ 140737488351232 := by
 rcases open_strings Tryz.underlying23 Tryz.underlying9 cells_str h with ⟨rfl, _⟩ | ⟨a, len, cap, bs, rfl, _, hl, hm, hz, hx, hcell, _⟩
 ·exact ⟨none, 0, [], rfl, ⟨.inl rfl, Nat.le_refl _, fun _ => rfl⟩, by simp, fun l hl => by cases hl⟩
 ·subst hx
  have hbl : bs.length = cap := by simpa using hz
  unfold maxLen at hm
  have hlen : ((bs.take len).map fun s => s.data.toList).length = len := by simp; omega
  have hsv : strsV ((bs.take len).map fun s => s.data.toList) = (bs.take len).map Value.string := by
   unfold strsV
   rw [List.map_map]
   exact List.map_congr_left fun s _ => by show Value.string (bstr s.data.toList) = _; rw [bstr_data]
  refine ⟨some a, cap, (bs.take len).map fun s => s.data.toList, by rw [hlen], ⟨?_, by rw [length_strsV, hlen]; exact hl, fun h => by cases h⟩, by rw [hlen]; omega, fun q hq => ?_⟩
  ·by_cases h0 : len = 0
   ·subst h0; exact .inl rfl
   ·obtain ⟨b, off, spot⟩ := a
    have hc0 := hcell 0 (by omega)
    have hspot : spot = none := by simpa [Addr.add] using World.cell?_spot hc0
    subst hspot
    refine .inr ⟨b, off, rfl, ?_, fun i hi => ?_⟩
    ·have := World.block_lt_of_cell? W _ hc0
     rw [Addr.add_lit] at this; exact this
    ·rw [length_strsV, hlen] at hi
     have hci := hcell i (by omega)
     rw [Addr.add_lit] at hci
     rw [hci, hsv]
     simp [hi, show i < bs.length by omega]
  ·obtain ⟨s, hs, rfl⟩ := List.mem_map.1 hq
   have hw := weights_strs (H := H) (P := Tryz.prog) (e := 9) _ _ hs
   have h1 := hsz s.data.toList.length (by
    simp only [DataW.weights, Tryz.underlying23]
    exact List.mem_cons_of_mem _ (List.mem_append_left _ hw))
   unfold reachBytes at h1
   exact h1
theorem cut6 {α : Type} (l : List α) : l = (l.drop 0).take 1 ++ ((l.drop 1).take 1 ++ ((l.drop 2).take 1 ++ ((l.drop 3).take 1 ++ ((l.drop 4).take 18 ++ l.drop 22)))) := by
 rw [← List.drop_drop (i := 18) (j := 4), List.take_append_drop]
 match l with
 | [] => rfl
 | [_] => rfl
 | [_, _] => rfl
 | [_, _, _] => rfl
 | _ :: _ :: _ :: _ :: _ => rfl
theorem open_prd {n : Nat} {cs : List Value} {x : DataW H × List MemPlace} (h : DataW.trod enc Tryz.prog W b1 (fun _ => true) held n 31 cs = some x) (hsz : ∀ k ∈ x.1.weights Tryz.prog 31, k ≤ reachBytes) :
  ∃ (p : Prd) (A : Option Addr) (c : Nat), cs = prdV p A c ∧ PrdArg W p A c := by
 obtain ⟨xs, m, _, rfl, hcl, hxl, hf⟩ := DataW.trod_struct Tryz.underlying31 h
 rw [cells_prd] at hcl
 obtain ⟨y0, y1, y2, y3, y4, y5, rfl⟩ := len6 xs hxl
 have g0 : DataW.trod enc Tryz.prog W b1 (fun _ => true) held m 3 ((cs.drop 0).take (Tryz.prog.cellsOf 3)) = some y0 := hf 0 _ rfl
 have g1 : DataW.trod enc Tryz.prog W b1 (fun _ => true) held m 22 ((cs.drop 1).take (Tryz.prog.cellsOf 22)) = some y1 := hf 1 _ rfl
 have g2 : DataW.trod enc Tryz.prog W b1 (fun _ => true) held m 23 ((cs.drop 2).take (Tryz.prog.cellsOf 23)) = some y2 := hf 2 _ rfl
 have g3 : DataW.trod enc Tryz.prog W b1 (fun _ => true) held m 9 ((cs.drop 3).take (Tryz.prog.cellsOf 9)) = some y3 := hf 3 _ rfl
 have g4 : DataW.trod enc Tryz.prog W b1 (fun _ => true) held m 28 ((cs.drop 4).take (Tryz.prog.cellsOf 28)) = some y4 := hf 4 _ rfl
 have g5 : DataW.trod enc Tryz.prog W b1 (fun _ => true) held m 29 ((cs.drop 22).take (Tryz.prog.cellsOf 29)) = some y5 := hf 5 _ rfl
 rw [cells_int17] at g0
 rw [cells_u64_17] at g1
 rw [cells_strs17] at g2
 rw [cells_str] at g3
 rw [cells_rng17] at g4
 rw [cells_f64_17, List.take_of_length_le (by rw [List.length_drop]; omega)] at g5
 have hwe : ∀ k, (k ∈ y2.1.weights Tryz.prog 23 ∨ k ∈ y3.1.weights Tryz.prog 9) → k ≤ reachBytes := by
  intro k hk
  refine hsz k ?_
  simp only [DataW.weights, Tryz.underlying31, List.map_cons, List.map_nil, DataW.weightsEach, List.mem_append]
  rcases hk with hk | hk
  ·exact .inr (.inr (.inl hk))
  ·exact .inr (.inr (.inr (.inl hk)))
 obtain ⟨z0, e0, _, hwf0⟩ := DataW.trod_int Tryz.underlying3 g0
 obtain ⟨z1, e1, _, hwf1⟩ := DataW.trod_int Tryz.underlying22 g1
 obtain ⟨A, c, ss, e2, hsl, hmany, heach⟩ := open_strs17 g2 (fun k hk => hwe k (.inl hk))
 obtain ⟨s3, e3, q3, _⟩ := DataW.trod_string Tryz.underlying9 g3
 obtain ⟨r, hr, e4⟩ := open_rng17 g4
 obtain ⟨f, e5, hf5⟩ := open_f64_17 g5
 have hb0 := bounds_i64 hwf0
 have hb1 := bounds_u64 hwf1
 refine ⟨⟨z0, z1.toNat, ss, s3.data.toList, r, f⟩, A, c, ?_, ⟨⟨hr, by show z1.toNat < _; omega, hf5⟩, hsl, hb0.1, by show z0 ≤ _; omega, ?_, hmany, heach⟩⟩
 ·rw [cut6 cs, e0, e1, e2, e3, e4, e5]
  unfold prdV
  dsimp only
  rw [bstr_data, show ((z1.toNat : Nat) : Int) = z1 by omega]
  rfl
 ·have := hwe s3.data.toList.length (.inr (by rw [q3]; simp [DataW.weights]))
  unfold reachBytes at this
  exact this
end
set_option maxRecDepth 100000 in
theorem open_prdArg {H : Type} {enc : TypeId × Value → H} {W : World} {held : Bool} {b0 b1 : Nat} {r : Reach} {v : Value} {d : DataW H} {p : List MemPlace} {ts : List TypeId} {ds : List (DataW H)}
  (hv : Value.okWide Tryz.prog W r b0 31 v) (h : DataW.Trod enc Tryz.prog W b1 (fun _ => true) held 31 v d p) (hsz : (DataW.weightsEach Tryz.prog ts ds).all (· ≤ reachBytes) = true) {j : Nat} (ht : ts[j]? = some 31) (hd : ds[j]? = some d) :
  ∃ (q : Prd) (A : Option Addr) (c : Nat), v = .agg (prdV q A c).toArray ∧ PrdArg W q A c := by
 simp only [Value.okWide, Tryz.underlying31] at hv
 obtain ⟨cs, rfl, _, _⟩ := hv
 obtain ⟨fuel, hf⟩ := h
 obtain ⟨q, A, c, e, h1⟩ := open_prd hf (fun k hk => of_decide_eq_true (List.all_eq_true.1 hsz k (DataW.weights_mem_each ht hd k hk)))
 refine ⟨q, A, c, ?_, h1⟩
 have e : cs.toList = prdV q A c := e
 rw [← e]
def zPrdV : Value := .agg (#[.int .i64 0, .int .u64 0, .slice none 0 0, .string { data := #[] }, .bool false] ++ Array.replicate 16 (.int .u8 0) ++ #[.int .i64 0, .float .f64 0])
def zPrdD {H : Type} : DataW H := .agg [.lit (.int .i64 0), .lit (.int .u64 0), .nil, .lit (.string []), .agg [.agg [.lit (.bool false), .agg (List.replicate 16 (.lit (.int .u8 0)))], .lit (.int .i64 0)], .lit (.float .f64 0)]
end Go.Proofs.YtjieebmcbpdeiaaGreatDoor
namespace Go.Proofs.YtjieebmcbpdeiaaGreatDoor
set_option maxRecDepth 100000
open Go Go.RowKit
def longQ (p : Prd) : Int := if 3000 < p.path.length + sumS p.names then 1 else 0
theorem longQ_one (p : Prd) (h : 3000 < p.path.length + sumS p.names) : longQ p = 1 := if_pos h
theorem longQ_zero (p : Prd) (h : p.path.length + sumS p.names ≤ 3000) : longQ p = 0 := if_neg (by omega)
theorem PrdArg.short {w : World} {p : Prd} {A : Option Addr} {c : Nat} (h : PrdArg w p A c) (hl : p.path.length + sumS p.names ≤ 3000) : PrdAt w p A c :=
 ⟨h.ok, h.names, h.lo, h.hi, by omega, by omega⟩
set_option maxHeartbeats 4000000 in
theorem qlong_any (p : Prd) (A : Option Addr) (c : Nat) (w : World) (h : PrdArg w p A c) :
  Calls Tryz.prog 7 #[.agg (prdV p A c).toArray] w fun e w' => e = .returned (.int .i64 (longQ p)) ∧ Below w.heap.size w w' := by
 obtain ⟨ok, hnm, -, -, hpl, hmn, hec⟩ := h
 have hb1 : Below w.heap.size w (w.alloc (.cells (prdV p A c).toArray 31)) := (Below.refl _ w).alloc (Nat.le_refl _) _
 obtain ⟨x0, x1, x2, x3, x22⟩ := prd_at p A c ok.net.a
 obtain ⟨X, hX⟩ : ∃ X, X = prdV p A c := ⟨_, rfl⟩
 rw [← hX] at x0 x1 x2 x3 x22 hb1 ⊢
 have hs1 := hnm.later (Nat.le_refl _) hb1
 have H1 := Lib.hid (longQ_one p)
 have H0 := Lib.hid (longQ_zero p)
 generalize longQ p = V at *
 have HLE := Lib.hid (fun k => sumS_le p.names k)
 have HSU := Lib.hid (fun k hk => sumS_succ p.names k hk)
 have HEC := Lib.hid (fun k (hk : k < p.names.length) => hec (p.names.getD k []) (by rw [List.getD_eq_getElem?_getD, List.getElem?_eq_getElem hk]; exact List.getElem_mem hk))
 have HTL := Lib.hid (show p.names.take p.names.length = p.names from List.take_length)
 have hzp := size_bstr p.path
 generalize bstr p.path = Q at *
 generalize p.path.length = m at *
 generalize p.names = l at *
 have hml : (l.length : Int) ≤ 9223372036854775807 := by omega
 clear hX hnm hec hmn x0 x1 x22 ok
 obtain ⟨w1, hw1⟩ : ∃ w1, w1 = w.alloc (.cells X.toArray 31) := ⟨_, rfl⟩
 rw [← hw1] at hs1 hb1
 have HW := Lib.hid hw1
 clear hw1
 go_enter Tryz.func7, Tryz.ntmps7
 go_wp2
 rw [← HW.out]
 clear HW x2 x3
 go_loop [3, 12] (fun n i => ∃ k : Nat, k ≤ l.length ∧ i = .int .i64 k ∧ n = .int .i64 ((m + sumS (l.take k) : Nat) : Int) ∧ (k = 0 ∨ m + sumS (l.take k) ≤ 3000)) (fun _ i => l.length - (intOf i).toNat)
 case atStart => exact ⟨0, Nat.zero_le _, rfl, rfl, .inl rfl⟩
 case round =>
  obtain ⟨k, hk, rfl, rfl, hacc⟩ := hrel
  by_cases hlt : k < l.length
  ·have hlt' : (k : Int) < (l.length : Int) := by omega
   have hk1 : k < (l : List (List UInt8)).length := hlt
   obtain ⟨b1, o1, rfl, -, -⟩ := hs1.rd.get (i := k) (by rw [length_strsV]; exact hk1)
   have hix := index_strs (some ⟨b1, o1, none⟩) b1 o1 l.length c k rfl hlt
   have hce := strs_cell hs1 k hk1
   have HS := Lib.hid (HSU.out k hlt)
   have hle := HEC.out k hlt
   have HL := Lib.hid (HLE.out (k + 1))
   have hac2 : m + sumS (l.take k) ≤ 140737488355232 := by
    rcases hacc with rfl | h
    ·rw [List.take_zero]; show m + 0 ≤ _; omega
    ·omega
   have hz := size_bstr (l.getD k [])
   generalize hq : (l.getD k []).length = q at *
   generalize bstr (l.getD k []) = S at *
   generalize hsm : sumS (l.take k) = a at *
   have w1' : IntKind.i64.wrap ((q : Int) + 1) = (q : Int) + 1 := by rw [IntKind.wrap_i64]; omega
   have w2' : IntKind.i64.wrap (((m + a : Nat) : Int) + ((q : Int) + 1)) = ((m + (a + (q + 1)) : Nat) : Int) := by rw [IntKind.wrap_i64]; omega
   obtain ⟨M, hM⟩ : ∃ M, M = m + (a + (q + 1)) := ⟨_, rfl⟩
   obtain ⟨N, hN⟩ : ∃ N, N = m + a := ⟨_, rfl⟩
   rw [← hM, ← hN] at w2'
   rw [← hN]
   have HM := Lib.hid hM
   have HQ := Lib.hid hq
   clear hM hN hq hsm hacc hle hac2 hlt hk1
   by_cases hg : 3000 < M
   ·have hg' : (3000 : Int) < (M : Int) := by omega
    have HV := Lib.hid (H1.out (by have := HL.out; have := HS.out; have := HM.out; have := HQ.out; omega))
    clear hg
    go_wp2
    go_ret
    exact ⟨by rw [HV.out]; rfl, hb1⟩
   ·have hg' : (M : Int) ≤ 3000 := by omega
    have HG := Lib.hid hg
    clear hg
    go_wp2
    go_roundw
    case rel => exact ⟨k + 1, by omega, by go_num, by rw [HM.out, HS.out], .inr (by have := HG.out; have := HM.out; rw [HS.out]; omega)⟩
    case measure => simp [intOf]; omega
  ·obtain rfl : k = l.length := by omega
   rw [HTL.out] at hacc ⊢
   by_cases hg : 3000 < m + sumS l
   ·have hg' : (3000 : Int) < ((m + sumS l : Nat) : Int) := by omega
    have HV := Lib.hid (H1.out hg)
    generalize m + sumS l = M at *
    clear hg
    go_wp2
    go_ret
    exact ⟨by rw [HV.out]; rfl, hb1⟩
   ·have hg' : ((m + sumS l : Nat) : Int) ≤ 3000 := by omega
    have HV := Lib.hid (H0.out (by omega))
    generalize m + sumS l = M at *
    clear hg
    go_wp2
    go_ret
    exact ⟨by rw [HV.out]; rfl, hb1⟩
theorem qcheck_any (p : Prd) (A : Option Addr) (c : Nat) (w : World) (h : PrdAt w p A c) (hE : EnvQ w) :
  Calls Tryz.prog 19 #[.agg (prdV p A c).toArray] w fun e w' => e = .returned (.bool (!decide (textP p = []))) ∧ Below w.heap.size w w' := pcheck17_any p A c w h hE
theorem qparse_any (s : List UInt8) (hs : s.length ≤ 2000) (w : World) (hE : EnvQ w) : Calls Tryz.prog 21 #[.string (bstr s)] w (GavePrd (parseP s) w) := pparse17_any s (by omega) w hE
end Go.Proofs.YtjieebmcbpdeiaaGreatDoor
