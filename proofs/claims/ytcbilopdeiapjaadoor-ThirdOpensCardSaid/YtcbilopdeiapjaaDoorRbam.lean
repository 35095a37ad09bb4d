/- Texts of this claim, one behind the other. -/
import Derived.Test.YtcbilopdeiapjaaDoorRbal
import Derived.Test.YtcbilopdeiapjaaDoorRbak
import Derived.Deep.DeepCutAuto
/- LAYER 20, ThirdOpens: the walk of the law. -/
namespace Go.Proofs.YtcbilopdeiapjaaDoor
set_option maxRecDepth 100000
open Go Go.RowKit

/-- What holds from the law's start on. -/
structure OpensI (w : World) (K D : List Value) (wx : World) : Prop where
  key : Row wx w.heap.size 25 K
  deal : Row wx (w.heap.size + 1) 29 D
  env : Tabs wx
  bel : Below w.heap.size w wx
theorem OpensI.later {w wx wy : World} {K D : List Value} (h : OpensI w K D wx) (hq : Below wx.heap.size wx wy) : OpensI w K D wy :=
  ⟨h.key.later hq h.key.lt, h.deal.later hq h.deal.lt, h.env.later hq (Nat.le_refl _), h.bel.trans (hq.mono h.bel.size)⟩
theorem eq_selfT (x : List UInt8) (hx : x.length = 32) (w : World) : (Op.equalIn 10000 25 (.agg (byts x).toArray) (.agg (byts x).toArray)).run Tryd.prog w = .ok true w := by
  obtain ⟨i8, hi8⟩ : ∃ i, Tryd.prog.info? 5 = some i := ⟨_, rfl⟩
  rw [run_eq_bytes 25 32 i8 Tryd.underlying25 hi8 x x hx hx w, decide_eq_true rfl]
set_option maxHeartbeats 4000000 in
theorem topens_g1 (key : List UInt8) (hk : key.length = 32) (d : Deal) (hd : d.Ok) (s : List UInt8) (w : World) (hT : Tabs w) (g1 : 600 < s.length) :
    Calls Tryd.prog 4 #[.agg (byts key).toArray, .agg (dealV d).toArray, .string (bstr s)] w fun e w' => e = .returned (.bool true) ∧ Below w.heap.size w w' := by
  obtain ⟨D, hD⟩ : ∃ D, D = dealV d := ⟨_, rfl⟩
  obtain ⟨w1, hw1⟩ : ∃ w1, w1 = (w.alloc (.cells (byts key).toArray 25)).alloc (.cells D.toArray 29) := ⟨_, rfl⟩
  obtain ⟨r1, r2, hb1⟩ := two_rows19 hw1.symm
  have HW := Lib.hid hw1
  have I : OpensI w (byts key) D w1 := ⟨r1, r2, hT.later hb1 (Nat.le_refl _), hb1⟩
  have hsz : ((bstr s).size : Int) = (s.length : Int) := by rw [size_bstr]
  have hcz : ((bstr d.cond).size : Int) = (d.cond.length : Int) := by rw [size_bstr]
  have HC := Lib.hid (fun (w' : World) (h : Row w' (w.heap.size + 1) 29 D) => deal_cond (hD ▸ h) hd)
  have hkz := Lib.hid (tagz hk)
  have HD := Lib.hid hD
  rw [← hD]
  clear hw1 hD r1 r2 hb1
  have tok1 : True := trivial
  have g1' : (600 : Int) < (s.length : Int) := by omega
  go_enter Tryd.func4, Tryd.ntmps4
  go_wp2_with (first
    | (have _t := tok1; rw [← HW.out]; clear tok1)
    | (go_at_call 5; refine (talive20_any _ I.env).mono ?_; rintro e w2 ⟨rfl, hq⟩; have I := I.later hq; have hcc := HC.out _ I.deal; have K3 := Lib.hid (row_range I.key); clear hq))
  go_ret
  exact ⟨rfl, I.bel⟩
set_option maxHeartbeats 4000000 in
theorem topens_g2 (key : List UInt8) (hk : key.length = 32) (d : Deal) (hd : d.Ok) (s : List UInt8) (w : World) (hT : Tabs w) (g1 : ¬ 600 < s.length) (g2 : 300 < d.cond.length) :
    Calls Tryd.prog 4 #[.agg (byts key).toArray, .agg (dealV d).toArray, .string (bstr s)] w fun e w' => e = .returned (.bool true) ∧ Below w.heap.size w w' := by
  obtain ⟨D, hD⟩ : ∃ D, D = dealV d := ⟨_, rfl⟩
  obtain ⟨w1, hw1⟩ : ∃ w1, w1 = (w.alloc (.cells (byts key).toArray 25)).alloc (.cells D.toArray 29) := ⟨_, rfl⟩
  obtain ⟨r1, r2, hb1⟩ := two_rows19 hw1.symm
  have HW := Lib.hid hw1
  have I : OpensI w (byts key) D w1 := ⟨r1, r2, hT.later hb1 (Nat.le_refl _), hb1⟩
  have hsz : ((bstr s).size : Int) = (s.length : Int) := by rw [size_bstr]
  have hcz : ((bstr d.cond).size : Int) = (d.cond.length : Int) := by rw [size_bstr]
  have HC := Lib.hid (fun (w' : World) (h : Row w' (w.heap.size + 1) 29 D) => deal_cond (hD ▸ h) hd)
  have hkz := Lib.hid (tagz hk)
  have HD := Lib.hid hD
  rw [← hD]
  clear hw1 hD r1 r2 hb1
  have tok1 : True := trivial
  have g1' : ¬ (600 : Int) < (s.length : Int) := by omega
  have g2' : (300 : Int) < (d.cond.length : Int) := by omega
  go_enter Tryd.func4, Tryd.ntmps4
  go_wp2_with (first
    | (have _t := tok1; rw [← HW.out]; clear tok1)
    | (go_at_call 5; refine (talive20_any _ I.env).mono ?_; rintro e w2 ⟨rfl, hq⟩; have I := I.later hq; have hcc := HC.out _ I.deal; have K3 := Lib.hid (row_range I.key); clear hq))
  go_ret
  exact ⟨rfl, I.bel⟩
set_option maxHeartbeats 8000000 in
theorem topens_main (key : List UInt8) (hk : key.length = 32) (d : Deal) (hd : d.Ok) (s : List UInt8) (w : World) (hT : Tabs w) (g1 : ¬ 600 < s.length) (g2 : ¬ 300 < d.cond.length) :
    Calls Tryd.prog 4 #[.agg (byts key).toArray, .agg (dealV d).toArray, .string (bstr s)] w fun e w' => e = .returned (.bool true) ∧ Below w.heap.size w w' := by
  obtain ⟨D, hD⟩ : ∃ D, D = dealV d := ⟨_, rfl⟩
  obtain ⟨w1, hw1⟩ : ∃ w1, w1 = (w.alloc (.cells (byts key).toArray 25)).alloc (.cells D.toArray 29) := ⟨_, rfl⟩
  obtain ⟨r1, r2, hb1⟩ := two_rows19 hw1.symm
  have HW := Lib.hid hw1
  have I : OpensI w (byts key) D w1 := ⟨r1, r2, hT.later hb1 (Nat.le_refl _), hb1⟩
  have hsz : ((bstr s).size : Int) = (s.length : Int) := by rw [size_bstr]
  have hcz : ((bstr d.cond).size : Int) = (d.cond.length : Int) := by rw [size_bstr]
  have HC := Lib.hid (fun (w' : World) (h : Row w' (w.heap.size + 1) 29 D) => deal_cond (hD ▸ h) hd)
  have hkz := Lib.hid (tagz hk)
  have HD := Lib.hid hD
  rw [← hD]
  clear hw1 hD r1 r2 hb1
  have tok1 : True := trivial
  have g1' : ¬ (600 : Int) < (s.length : Int) := by omega
  have g2' : ¬ (300 : Int) < (d.cond.length : Int) := by omega
  have hdu := Lib.hid (fun w' h => tunlock20_any key s hk (by omega) w' h)
  have hru := Lib.hid (fun w' => runlock_any key s hk (by omega) w')
  have hdr := Lib.hid (fun w' h => treveal20_any key s hk (by omega) w' h)
  have hrr := Lib.hid (fun w' => rreveal_any key s hk (by omega) w')
  have hdl := Lib.hid (fun w' h => tlock20_any key d.ask d.root d.cond hk hd.ask hd.root (by omega) w' h)
  have hrl := Lib.hid (fun w' => rlock_any key d.ask d.root d.cond hk hd.ask hd.root (by omega) w')
  have hdh := Lib.hid (fun w' h => thide20_any key d.vault d.root hk hd.vault hd.root w' h)
  have hrh := Lib.hid (fun w' => rhide_any key d.vault d.root hk hd.vault hd.root w')
  have hul := length_unlockL key s
  have hvl := length_revealL key s
  generalize unlockL key s = u at *
  generalize revealL key s = v at *
  obtain ⟨u1, u2, u3⟩ := u
  obtain ⟨v1, v2⟩ := v
  generalize lockL key d.ask d.root d.cond = LL at *
  generalize hideL key d.vault d.root = HH at *
  have u1l := Lib.hid (show u1.length = 32 from hul)
  have v1l := Lib.hid (show v1.length = 32 from hvl)
  have haz := Lib.hid (tagz hd.ask)
  have hrz := Lib.hid (tagz hd.root)
  have hvz := Lib.hid (tagz hd.vault)
  have HOk := Lib.hid hd
  have hqu := Lib.hid (eq_selfT u1 hul)
  have hqv := Lib.hid (eq_selfT v1 hvl)
  have hsu := Lib.hid (show ((bstr u2).toList == (bstr u2).toList) = true from beq_self_eq_true _)
  have hsl := Lib.hid (show ((bstr LL).toList == (bstr LL).toList) = true from beq_self_eq_true _)
  have hsh := Lib.hid (show ((bstr HH).toList == (bstr HH).toList) = true from beq_self_eq_true _)
  have hbu := Lib.hid (show (u3 == u3) = true from beq_self_eq_true _)
  have hbv := Lib.hid (show (v2 == v2) = true from beq_self_eq_true _)
  clear hul hvl hk hd hT
  go_enter Tryd.func4, Tryd.ntmps4
  go_wp2_with (first
    | (have _t := tok1; rw [← HW.out]; clear tok1)
    | (go_at_call 5; refine (talive20_any _ I.env).mono ?_; rintro e w2 ⟨rfl, hq⟩; have I := I.later hq; have hcc := HC.out _ I.deal; have K3 := Lib.hid (row_range I.key); clear hq)
    | (with_reducible refine wpList_load_mid rfl 25 (.tmp 3) rfl w.heap.size 0 rfl (byts key) _ K3.out Tryd.underlying25 rfl hkz.out ?_)
    | (go_at_call 10; refine (hdu.out _ I.env).mono ?_; rintro e w4 ⟨rfl, hq⟩; have I := I.later hq; clear hq; have hzV := Lib.hid (show (Tryd.prog.info? 25).map (·.size) = some (byts u1).toArray.size by rw [List.size_toArray]; exact tagz u1l.out); have h32 := Lib.hid (show 32 = (byts u1).toArray.size by rw [List.size_toArray, tag_fit _ u1l.out]); have hV1 := Lib.hid (arr_one u1))
    | (have _t := h32; refine wpList_store_row rfl 25 (.tmp 7) (.tmp 32) rfl w4.heap.size (byts u1).toArray rfl rfl 25 _ (heap_alloc_new w4 _) hzV.out (Eq.trans (by kernel_rfl) h32.out) hV1.out ?_; refine Hid.out ?_))
  refine Lib.hid ?_
  generalize hww : World.setRow _ _ _ = w5
  obtain ⟨q1, hq⟩ := row_new_set (xs := byts u1) hww
  have I := I.later hq
  generalize w4.heap.size = b1 at *
  clear hww hq hzV h32 hV1 K3 hdu hcc
  have K3 := Lib.hid (row_range I.key)
  go_wp2_with (first
    | (with_reducible refine wpList_load_mid rfl 25 (.tmp 3) rfl w.heap.size 0 rfl (byts key) _ K3.out Tryd.underlying25 rfl hkz.out ?_)
    | (go_at_call 11; refine (hru.out _).mono ?_; rintro e w6 ⟨rfl, hq⟩; have I := I.later hq; have q1 := q1.later hq q1.lt; clear hq; have hzV := Lib.hid (show (Tryd.prog.info? 25).map (·.size) = some (byts u1).toArray.size by rw [List.size_toArray]; exact tagz u1l.out); have h32 := Lib.hid (show 32 = (byts u1).toArray.size by rw [List.size_toArray, tag_fit _ u1l.out]); have hV1 := Lib.hid (arr_one u1))
    | (have _t := h32; refine wpList_store_row rfl 25 (.tmp 10) (.tmp 39) rfl w6.heap.size (byts u1).toArray rfl rfl 25 _ (heap_alloc_new w6 _) hzV.out (Eq.trans (by kernel_rfl) h32.out) hV1.out ?_; refine Hid.out ?_))
  refine Lib.hid ?_
  generalize hww : World.setRow _ _ _ = w7
  obtain ⟨q2, hq⟩ := row_new_set (xs := byts u1) hww
  have I := I.later hq
  have q1 := q1.later hq q1.lt
  generalize w6.heap.size = b2 at *
  clear hww hq hzV h32 hV1 K3 hru
  have K3 := Lib.hid (row_range I.key)
  go_wp2_with (first
    | (with_reducible refine wpList_load_mid rfl 25 (.tmp 3) rfl w.heap.size 0 rfl (byts key) _ K3.out Tryd.underlying25 rfl hkz.out ?_)
    | (go_at_call 12; refine (hdr.out _ I.env).mono ?_; rintro e w8 ⟨rfl, hq⟩; have I := I.later hq; have q1 := q1.later hq q1.lt; have q2 := q2.later hq q2.lt; clear hq; have hzV := Lib.hid (show (Tryd.prog.info? 25).map (·.size) = some (byts v1).toArray.size by rw [List.size_toArray]; exact tagz v1l.out); have h32 := Lib.hid (show 32 = (byts v1).toArray.size by rw [List.size_toArray, tag_fit _ v1l.out]); have hV1 := Lib.hid (arr_one v1))
    | (have _t := h32; refine wpList_store_row rfl 25 (.tmp 13) (.tmp 46) rfl w8.heap.size (byts v1).toArray rfl rfl 25 _ (heap_alloc_new w8 _) hzV.out (Eq.trans (by kernel_rfl) h32.out) hV1.out ?_; refine Hid.out ?_))
  refine Lib.hid ?_
  generalize hww : World.setRow _ _ _ = w9
  obtain ⟨q3, hq⟩ := row_new_set (xs := byts v1) hww
  have I := I.later hq
  have q1 := q1.later hq q1.lt
  have q2 := q2.later hq q2.lt
  generalize w8.heap.size = b3 at *
  clear hww hq hzV h32 hV1 K3 hdr
  have K3 := Lib.hid (row_range I.key)
  go_wp2_with (first
    | (with_reducible refine wpList_load_mid rfl 25 (.tmp 3) rfl w.heap.size 0 rfl (byts key) _ K3.out Tryd.underlying25 rfl hkz.out ?_)
    | (go_at_call 13; refine (hrr.out _).mono ?_; rintro e w10 ⟨rfl, hq⟩; have I := I.later hq; have q1 := q1.later hq q1.lt; have q2 := q2.later hq q2.lt; have q3 := q3.later hq q3.lt; clear hq; have hzV := Lib.hid (show (Tryd.prog.info? 25).map (·.size) = some (byts v1).toArray.size by rw [List.size_toArray]; exact tagz v1l.out); have h32 := Lib.hid (show 32 = (byts v1).toArray.size by rw [List.size_toArray, tag_fit _ v1l.out]); have hV1 := Lib.hid (arr_one v1))
    | (have _t := h32; refine wpList_store_row rfl 25 (.tmp 15) (.tmp 52) rfl w10.heap.size (byts v1).toArray rfl rfl 25 _ (heap_alloc_new w10 _) hzV.out (Eq.trans (by kernel_rfl) h32.out) hV1.out ?_; refine Hid.out ?_))
  refine Lib.hid ?_
  generalize hww : World.setRow _ _ _ = wz
  obtain ⟨q4, hq⟩ := row_new_set (xs := byts v1) hww
  have I := I.later hq
  have q1 := q1.later hq q1.lt
  have q2 := q2.later hq q2.lt
  have q3 := q3.later hq q3.lt
  generalize w10.heap.size = b4 at *
  clear hww hq hzV h32 hV1 K3 hrr
  have K3 := Lib.hid (row_range I.key)
  have u1z := Lib.hid (tagz u1l.out)
  have v1z := Lib.hid (tagz v1l.out)
  clear K3
  go_upto_region 9 with fail
  refine wp_region_noPanic ?_
  refine wp_region_held_drew (S := fun w' => Below wz.heap.size wz w') (by kernel_rfl) ((Below.refl _ _).drew) (fun hHeld => ?_)
  have hB : Below wz.heap.size wz wz.drew := (Below.refl _ _).drew
  refine rt 0 54 hHeld ?_ (hy := by intro w hS; exact run_load_op 25 (.tmp 7) rfl _ 0 rfl (byts u1) _ (row_range (q1.later hS q1.lt)) Tryd.underlying25 rfl u1z.out)
  refine rt 1 55 hHeld ?_ (hy := by intro w hS; exact run_load_op 25 (.tmp 10) rfl _ 0 rfl (byts u1) _ (row_range (q2.later hS q2.lt)) Tryd.underlying25 rfl u1z.out)
  refine rt 2 56 hHeld ?_ (hy := by intro w hS; have h1 := hqu.out w; go_simp; try with_reducible rfl)
  refine rt 3 57 hHeld ?_
  refine rt 4 58 hHeld ?_
  refine rt 5 59 hHeld ?_
  refine rt 6 60 hHeld ?_ (hy := by intro w hS; have h1 := hsu.out; go_simp; try with_reducible rfl)
  refine rt 7 61 hHeld ?_
  refine rt 8 62 hHeld ?_
  refine rt 9 63 hHeld ?_
  refine rt 10 64 hHeld ?_
  refine rt 11 65 hHeld ?_ (hy := by intro w hS; have h1 := hbu.out; go_simp; try with_reducible rfl)
  refine rt 12 66 hHeld ?_
  refine rt 13 67 hHeld ?_
  refine rt 14 68 hHeld ?_ (hy := by intro w hS; exact run_load_op 25 (.tmp 13) rfl _ 0 rfl (byts v1) _ (row_range (q3.later hS q3.lt)) Tryd.underlying25 rfl v1z.out)
  refine rt 15 69 hHeld ?_ (hy := by intro w hS; exact run_load_op 25 (.tmp 15) rfl _ 0 rfl (byts v1) _ (row_range (q4.later hS q4.lt)) Tryd.underlying25 rfl v1z.out)
  refine rt 16 70 hHeld ?_ (hy := by intro w hS; have h1 := hqv.out w; go_simp; try with_reducible rfl)
  refine rt 17 71 hHeld ?_
  refine rt 18 72 hHeld ?_
  refine rt 19 73 hHeld ?_
  refine rt 20 74 hHeld ?_
  refine rt 21 75 hHeld ?_ (hy := by intro w hS; have h1 := hbv.out; go_simp; try with_reducible rfl)
  refine rt 22 76 hHeld ?_
  refine rt 23 77 hHeld ?_
  refine rt 24 78 hHeld ?_ (hy := by intro w hS; exact run_load_op 25 (.tmp 3) rfl _ 0 rfl (byts key) _ (row_range (I.key.later hS I.key.lt)) Tryd.underlying25 rfl hkz.out)
  refine rt 25 79 hHeld ?_
  refine rt 26 80 hHeld ?_ (hy := by intro w hS; exact run_load_op 25 (.tmp 79) rfl _ 66 rfl (byts d.ask) _ (deal_ask (HD.out ▸ I.deal.later hS I.deal.lt) HOk.out) Tryd.underlying25 rfl haz.out)
  refine rt 27 81 hHeld ?_
  refine rt 28 82 hHeld ?_ (hy := by intro w hS; exact run_load_op 25 (.tmp 81) rfl _ 33 rfl (byts d.root) _ (deal_root (HD.out ▸ I.deal.later hS I.deal.lt) HOk.out) Tryd.underlying25 rfl hrz.out)
  refine rt 29 83 hHeld ?_
  refine rt 30 84 hHeld ?_ (hy := by intro w hS; have h1 := deal_cond (HD.out ▸ I.deal.later hS I.deal.lt) HOk.out; go_simp; try with_reducible rfl)
  refine rt 32 86 hHeld ?_ (hy := by intro w hS; exact run_load_op 25 (.tmp 3) rfl _ 0 rfl (byts key) _ (row_range (I.key.later hS I.key.lt)) Tryd.underlying25 rfl hkz.out)
  refine rt 33 87 hHeld ?_
  refine rt 34 88 hHeld ?_ (hy := by intro w hS; exact run_load_op 25 (.tmp 87) rfl _ 66 rfl (byts d.ask) _ (deal_ask (HD.out ▸ I.deal.later hS I.deal.lt) HOk.out) Tryd.underlying25 rfl haz.out)
  refine rt 35 89 hHeld ?_
  refine rt 36 90 hHeld ?_ (hy := by intro w hS; exact run_load_op 25 (.tmp 89) rfl _ 33 rfl (byts d.root) _ (deal_root (HD.out ▸ I.deal.later hS I.deal.lt) HOk.out) Tryd.underlying25 rfl hrz.out)
  refine rt 37 91 hHeld ?_
  refine rt 38 92 hHeld ?_ (hy := by intro w hS; have h1 := deal_cond (HD.out ▸ I.deal.later hS I.deal.lt) HOk.out; go_simp; try with_reducible rfl)
  refine rc1 31 fun K hK => ?_
  go_simp
  refine (hdl.out _ (I.env.later hB (Nat.le_refl _))).mono ?_; rintro e wwz31 ⟨rfl, hqwz31⟩
  try go_wp2_with fail
  refine hK.out _ _ (hHeld.trans (hqwz31.mono hHeld.size)) (fun hHeld => ?_)
  clear hK K
  have hB := below_step hB hqwz31
  have hB31 : Below wwz31.heap.size wwz31 wwz31 := Below.refl _ _
  refine rc1 39 fun K hK => ?_
  go_simp
  refine (hrl.out _).mono ?_; rintro e wwz39 ⟨rfl, hqwz39⟩
  try go_wp2_with fail
  refine hK.out _ _ (hHeld.trans (hqwz39.mono hHeld.size)) (fun hHeld => ?_)
  clear hK K
  have hB := below_step hB hqwz39
  have hB31 := below_step hB31 hqwz39
  have hB39 : Below wwz39.heap.size wwz39 wwz39 := Below.refl _ _
  refine rt 40 94 hHeld ?_ (hy := by intro w hS; have h1 := hsl.out; go_simp; try with_reducible rfl)
  refine rt 41 95 hHeld ?_
  refine rt 42 96 hHeld ?_
  refine rt 43 97 hHeld ?_ (hy := by intro w hS; exact run_load_op 25 (.tmp 3) rfl _ 0 rfl (byts key) _ (row_range (I.key.later hS I.key.lt)) Tryd.underlying25 rfl hkz.out)
  refine rt 44 98 hHeld ?_
  refine rt 45 99 hHeld ?_ (hy := by intro w hS; exact run_load_op 25 (.tmp 98) rfl _ 98 rfl (byts d.vault) _ (deal_vault (HD.out ▸ I.deal.later hS I.deal.lt) HOk.out) Tryd.underlying25 rfl hvz.out)
  refine rt 46 100 hHeld ?_
  refine rt 47 101 hHeld ?_ (hy := by intro w hS; exact run_load_op 25 (.tmp 100) rfl _ 33 rfl (byts d.root) _ (deal_root (HD.out ▸ I.deal.later hS I.deal.lt) HOk.out) Tryd.underlying25 rfl hrz.out)
  refine rt 49 103 hHeld ?_ (hy := by intro w hS; exact run_load_op 25 (.tmp 3) rfl _ 0 rfl (byts key) _ (row_range (I.key.later hS I.key.lt)) Tryd.underlying25 rfl hkz.out)
  refine rt 50 104 hHeld ?_
  refine rt 51 105 hHeld ?_ (hy := by intro w hS; exact run_load_op 25 (.tmp 104) rfl _ 98 rfl (byts d.vault) _ (deal_vault (HD.out ▸ I.deal.later hS I.deal.lt) HOk.out) Tryd.underlying25 rfl hvz.out)
  refine rt 52 106 hHeld ?_
  refine rt 53 107 hHeld ?_ (hy := by intro w hS; exact run_load_op 25 (.tmp 106) rfl _ 33 rfl (byts d.root) _ (deal_root (HD.out ▸ I.deal.later hS I.deal.lt) HOk.out) Tryd.underlying25 rfl hrz.out)
  refine rc1 48 fun K hK => ?_
  go_simp
  refine (hdh.out _ (I.env.later hB (Nat.le_refl _))).mono ?_; rintro e wwz48 ⟨rfl, hqwz48⟩
  try go_wp2_with fail
  refine hK.out _ _ (hHeld.trans (hqwz48.mono hHeld.size)) (fun hHeld => ?_)
  clear hK K
  have hB := below_step hB hqwz48
  have hB31 := below_step hB31 hqwz48
  have hB39 := below_step hB39 hqwz48
  have hB48 : Below wwz48.heap.size wwz48 wwz48 := Below.refl _ _
  refine rc1 54 fun K hK => ?_
  go_simp
  refine (hrh.out _).mono ?_; rintro e wwz54 ⟨rfl, hqwz54⟩
  try go_wp2_with fail
  refine hK.out _ _ (hHeld.trans (hqwz54.mono hHeld.size)) (fun hHeld => ?_)
  clear hK K
  have hB := below_step hB hqwz54
  have hB31 := below_step hB31 hqwz54
  have hB39 := below_step hB39 hqwz54
  have hB48 := below_step hB48 hqwz54
  have hB54 : Below wwz54.heap.size wwz54 wwz54 := Below.refl _ _
  refine rt 55 109 hHeld ?_ (hy := by intro w hS; have h1 := hsh.out; go_simp; try with_reducible rfl)
  refine rt 56 110 hHeld ?_
  refine rt 57 6 hHeld ?_
  refine wpAnyH_done (by kernel_rfl) ?_ _
  refine NoPanic.normal ?_
  have hbz := I.bel.trans (hB.mono I.bel.size)
  clear hB hHeld
  go_wp2_with fail
  go_ret
  exact ⟨rfl, hbz⟩
theorem topens_walk (key : List UInt8) (hk : key.length = 32) (d : Deal) (hd : d.Ok) (s : List UInt8) (w : World) (hT : Tabs w) :
    Calls Tryd.prog 4 #[.agg (byts key).toArray, .agg (dealV d).toArray, .string (bstr s)] w fun e w' => e = .returned (.bool true) ∧ Below w.heap.size w w' := by
  by_cases g1 : 600 < s.length
  · exact topens_g1 key hk d hd s w hT g1
  by_cases g2 : 300 < d.cond.length
  · exact topens_g2 key hk d hd s w hT g1 g2
  exact topens_main key hk d hd s w hT g1 g2
end Go.Proofs.YtcbilopdeiapjaaDoor
