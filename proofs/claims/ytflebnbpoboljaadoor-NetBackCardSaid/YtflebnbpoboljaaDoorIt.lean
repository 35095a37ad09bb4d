/- LAYER 12: the document's Text of what can't be, and of four bytes. -/
import Derived.Test.YtflebnbpoboljaaDoorIc
namespace Go.Proofs.YtflebnbpoboljaaDoor
set_option maxRecDepth 100000
open Go Go.RowKit

theorem rtext_bad (a : Adr) (h : a.Ok) (hc : checkA a = false) (w : World) :
    Calls Tryd.prog 31 #[.agg (adrV a).toArray] w fun e w' => e = .returned (.string (bstr (textA a))) ∧ Below w.heap.size w w' := by
  have HT := Lib.hid (show textA a = [] by unfold textA; rw [hc]; rfl)
  obtain ⟨w1, hw1⟩ : ∃ w1, w1 = w.alloc (.cells (adrV a).toArray 24) := ⟨_, rfl⟩
  have hr : Row w1 w.heap.size 24 (adrV a) := by rw [hw1]; exact Row.new w _ _
  have hb : Below w.heap.size w w1 := by rw [hw1]; exact (Below.refl _ w).alloc (Nat.le_refl _) _
  have hchk := Lib.hid (rcheckA_any a h)
  have hT := row_range hr
  obtain ⟨V, hV⟩ : ∃ V, V = adrV a := ⟨_, rfl⟩
  have hl := Lib.hid (show (Tryd.prog.info? 24).map (·.size) = some V.length by rw [hV, length_adrV h, size_adr])
  rw [← hV] at hw1 hchk hT ⊢
  rw [hc] at hchk
  clear hV hr
  go_enter Tryd.func31, Tryd.ntmps31
  subst hw1
  go_wp2_with (first
    | (with_reducible refine wpList_load_mid rfl 24 (.tmp 1) rfl w.heap.size 0 rfl V _ hT Tryd.underlying24 rfl hl.out ?_)
    | (go_at_call 26; refine (hchk.out _).mono ?_; rintro e w2 ⟨rfl, hb2⟩; have hb3 := hb.trans (hb2.mono hb.size)))
  go_ret
  exact ⟨by rw [HT.out]; rfl, hb3⟩
set_option maxHeartbeats 2000000 in
theorem rtext_four (a : Adr) (h : a.Ok) (hc : checkA a = true) (h6 : a.v6 = false) (w : World) :
    Calls Tryd.prog 31 #[.agg (adrV a).toArray] w fun e w' => e = .returned (.string (bstr (textA a))) ∧ Below w.heap.size w w' := by
  obtain ⟨w1, hw1⟩ : ∃ w1, w1 = w.alloc (.cells (adrV a).toArray 24) := ⟨_, rfl⟩
  have hr : Row w1 w.heap.size 24 (adrV a) := by rw [hw1]; exact Row.new w _ _
  have hb : Below w.heap.size w w1 := by rw [hw1]; exact (Below.refl _ w).alloc (Nat.le_refl _) _
  have hchk := Lib.hid (rcheckA_any a h)
  have hT := row_range hr
  have hrl := fun w' (h : Below w1.heap.size w1 w') => hr.later h hr.lt
  have hD : ∀ k, k < 4 → ∃ x : UInt8, a.b.getD k 0 = x := fun k _ => ⟨_, rfl⟩
  have HT := Lib.hid (show textA a = numL 10 (a.b.getD 0 0).toNat ++ [46] ++ numL 10 (a.b.getD 1 0).toNat ++ [46] ++ numL 10 (a.b.getD 2 0).toNat ++ [46] ++ numL 10 (a.b.getD 3 0).toNat by unfold textA; rw [hc, h6]; simp)
  have hE0 := Lib.hid (fun w' (hq : Below w1.heap.size w1 w') => adr_cell h (hrl w' hq) 0 (by omega))
  have hE1 := Lib.hid (fun w' (hq : Below w1.heap.size w1 w') => adr_cell h (hrl w' hq) 1 (by omega))
  have hE2 := Lib.hid (fun w' (hq : Below w1.heap.size w1 w') => adr_cell h (hrl w' hq) 2 (by omega))
  have hE3 := Lib.hid (fun w' (hq : Below w1.heap.size w1 w') => adr_cell h (hrl w' hq) 3 (by omega))
  have hE6 := Lib.hid (fun w' (hq : Below w1.heap.size w1 w') => adr_v6 (hrl w' hq))
  rw [h6] at hE6
  obtain ⟨V, hV⟩ : ∃ V, V = adrV a := ⟨_, rfl⟩
  have hl := Lib.hid (show (Tryd.prog.info? 24).map (·.size) = some V.length by rw [hV, length_adrV h, size_adr])
  rw [← hV] at hw1 hchk hT ⊢
  rw [hc] at hchk
  clear hV hr hrl hD
  have hn0 := Lib.hid (fun w' => rnum10_any (a.b.getD 0 0).toNat (a.b.getD 0 0).toNat w' (Nat.le_refl _) (by have := (a.b.getD 0 0).toNat_lt; omega))
  have hl0 := numL_len 10 (by omega) 2 (a.b.getD 0 0).toNat (by have := (a.b.getD 0 0).toNat_lt; omega)
  generalize a.b.getD 0 0 = x0 at *
  generalize numL 10 x0.toNat = X0 at *
  have hz0 : (bstr X0).size = X0.length := size_bstr _
  have hv0 : IntKind.i64.wrap (x0.toNat : Int) = (x0.toNat : Int) := by rw [IntKind.wrap_i64]; have := x0.toNat_lt; omega
  have hn1 := Lib.hid (fun w' => rnum10_any (a.b.getD 1 0).toNat (a.b.getD 1 0).toNat w' (Nat.le_refl _) (by have := (a.b.getD 1 0).toNat_lt; omega))
  have hl1 := numL_len 10 (by omega) 2 (a.b.getD 1 0).toNat (by have := (a.b.getD 1 0).toNat_lt; omega)
  generalize a.b.getD 1 0 = x1 at *
  generalize numL 10 x1.toNat = X1 at *
  have hz1 : (bstr X1).size = X1.length := size_bstr _
  have hv1 : IntKind.i64.wrap (x1.toNat : Int) = (x1.toNat : Int) := by rw [IntKind.wrap_i64]; have := x1.toNat_lt; omega
  have hn2 := Lib.hid (fun w' => rnum10_any (a.b.getD 2 0).toNat (a.b.getD 2 0).toNat w' (Nat.le_refl _) (by have := (a.b.getD 2 0).toNat_lt; omega))
  have hl2 := numL_len 10 (by omega) 2 (a.b.getD 2 0).toNat (by have := (a.b.getD 2 0).toNat_lt; omega)
  generalize a.b.getD 2 0 = x2 at *
  generalize numL 10 x2.toNat = X2 at *
  have hz2 : (bstr X2).size = X2.length := size_bstr _
  have hv2 : IntKind.i64.wrap (x2.toNat : Int) = (x2.toNat : Int) := by rw [IntKind.wrap_i64]; have := x2.toNat_lt; omega
  have hn3 := Lib.hid (fun w' => rnum10_any (a.b.getD 3 0).toNat (a.b.getD 3 0).toNat w' (Nat.le_refl _) (by have := (a.b.getD 3 0).toNat_lt; omega))
  have hl3 := numL_len 10 (by omega) 2 (a.b.getD 3 0).toNat (by have := (a.b.getD 3 0).toNat_lt; omega)
  generalize a.b.getD 3 0 = x3 at *
  generalize numL 10 x3.toNat = X3 at *
  have hz3 : (bstr X3).size = X3.length := size_bstr _
  have hv3 : IntKind.i64.wrap (x3.toNat : Int) = (x3.toNat : Int) := by rw [IntKind.wrap_i64]; have := x3.toNat_lt; omega
  go_enter Tryd.func31, Tryd.ntmps31
  subst hw1
  go_wp2_with (first
    | (with_reducible refine wpList_load_mid rfl 24 (.tmp 1) rfl w.heap.size 0 rfl V _ hT Tryd.underlying24 rfl hl.out ?_)
    | (go_at_call 26; refine (hchk.out _).mono ?_; rintro e w2 ⟨rfl, hb2⟩; have h6c := hE6.out _ hb2))
  have hE0 : ∀ w', Below w2.heap.size w2 w' → w'.cell? ⟨w.heap.size, 1, none⟩ = some (.int .u8 (x0.toNat : Int)) := fun w' hq => hE0.out w' (hb2.trans (hq.mono hb2.size))
  have hE1 : ∀ w', Below w2.heap.size w2 w' → w'.cell? ⟨w.heap.size, 2, none⟩ = some (.int .u8 (x1.toNat : Int)) := fun w' hq => hE1.out w' (hb2.trans (hq.mono hb2.size))
  have hE2 : ∀ w', Below w2.heap.size w2 w' → w'.cell? ⟨w.heap.size, 3, none⟩ = some (.int .u8 (x2.toNat : Int)) := fun w' hq => hE2.out w' (hb2.trans (hq.mono hb2.size))
  have hE3 : ∀ w', Below w2.heap.size w2 w' → w'.cell? ⟨w.heap.size, 4, none⟩ = some (.int .u8 (x3.toNat : Int)) := fun w' hq => hE3.out w' (hb2.trans (hq.mono hb2.size))
  have hb2 := hb.trans (hb2.mono hb.size)
  clear hT hb
  refine wp_region_noPanic ?_
  refine wp_region_held_drew (S := fun w' => Below w2.heap.size w2 w') (by kernel_rfl) ((Below.refl _ _).drew) (fun hHeld => ?_)
  have hB := hHeld
  refine rtake 0 _ (some 14) _ rfl rfl (by kernel_rfl) (by kernel_rfl) (by kernel_rfl) (fun _ _ _ h => h) (by rfl) hHeld (by intro w hS; go_simp; try with_reducible rfl) ?_
  try (first | (rw [put_some]; dsimp only [List.set]) | rw [put_none])
  refine rtake 1 _ (some 15) _ rfl rfl (by kernel_rfl) (by kernel_rfl) (by kernel_rfl) (fun _ _ _ h => h) (by rfl) hHeld (by intro w hS; go_simp; try with_reducible rfl) ?_
  try (first | (rw [put_some]; dsimp only [List.set]) | rw [put_none])
  refine rtake 2 _ (some 16) _ rfl rfl (by kernel_rfl) (by kernel_rfl) (by kernel_rfl) (fun _ _ _ h => h) (by rfl) hHeld (by intro w hS; go_simp; try with_reducible rfl) ?_
  try (first | (rw [put_some]; dsimp only [List.set]) | rw [put_none])
  refine rtake 3 _ (some 17) _ rfl rfl (by kernel_rfl) (by kernel_rfl) (by kernel_rfl) (fun _ _ _ h => h) (by rfl) hHeld (by intro w hS; go_simp; try with_reducible rfl) ?_
  try (first | (rw [put_some]; dsimp only [List.set]) | rw [put_none])
  refine rtake 6 _ (some 20) _ rfl rfl (by kernel_rfl) (by kernel_rfl) (by kernel_rfl) (fun _ _ _ h => h) (by rfl) hHeld (by intro w hS; go_simp; try with_reducible rfl) ?_
  try (first | (rw [put_some]; dsimp only [List.set]) | rw [put_none])
  refine rtake 7 _ (some 21) _ rfl rfl (by kernel_rfl) (by kernel_rfl) (by kernel_rfl) (fun _ _ _ h => h) (by rfl) hHeld (by intro w hS; go_simp; try with_reducible rfl) ?_
  try (first | (rw [put_some]; dsimp only [List.set]) | rw [put_none])
  refine rtake 8 _ (some 22) _ rfl rfl (by kernel_rfl) (by kernel_rfl) (by kernel_rfl) (fun _ _ _ h => h) (by rfl) hHeld (by intro w hS; go_simp; try with_reducible rfl) ?_
  try (first | (rw [put_some]; dsimp only [List.set]) | rw [put_none])
  refine rtake 9 _ (some 23) _ rfl rfl (by kernel_rfl) (by kernel_rfl) (by kernel_rfl) (fun _ _ _ h => h) (by rfl) hHeld (by intro w hS; go_simp; try with_reducible rfl) ?_
  try (first | (rw [put_some]; dsimp only [List.set]) | rw [put_none])
  refine rtake 13 _ (some 27) _ rfl rfl (by kernel_rfl) (by kernel_rfl) (by kernel_rfl) (fun _ _ _ h => h) (by rfl) hHeld (by intro w hS; go_simp; try with_reducible rfl) ?_
  try (first | (rw [put_some]; dsimp only [List.set]) | rw [put_none])
  refine rtake 14 _ (some 28) _ rfl rfl (by kernel_rfl) (by kernel_rfl) (by kernel_rfl) (fun _ _ _ h => h) (by rfl) hHeld (by intro w hS; go_simp; try with_reducible rfl) ?_
  try (first | (rw [put_some]; dsimp only [List.set]) | rw [put_none])
  refine rtake 15 _ (some 29) _ rfl rfl (by kernel_rfl) (by kernel_rfl) (by kernel_rfl) (fun _ _ _ h => h) (by rfl) hHeld (by intro w hS; go_simp; try with_reducible rfl) ?_
  try (first | (rw [put_some]; dsimp only [List.set]) | rw [put_none])
  refine rtake 16 _ (some 30) _ rfl rfl (by kernel_rfl) (by kernel_rfl) (by kernel_rfl) (fun _ _ _ h => h) (by rfl) hHeld (by intro w hS; go_simp; try with_reducible rfl) ?_
  try (first | (rw [put_some]; dsimp only [List.set]) | rw [put_none])
  refine rtake 20 _ (some 34) _ rfl rfl (by kernel_rfl) (by kernel_rfl) (by kernel_rfl) (fun _ _ _ h => h) (by rfl) hHeld (by intro w hS; go_simp; try with_reducible rfl) ?_
  try (first | (rw [put_some]; dsimp only [List.set]) | rw [put_none])
  refine rtake 21 _ (some 35) _ rfl rfl (by kernel_rfl) (by kernel_rfl) (by kernel_rfl) (fun _ _ _ h => h) (by rfl) hHeld (by intro w hS; go_simp; try with_reducible rfl) ?_
  try (first | (rw [put_some]; dsimp only [List.set]) | rw [put_none])
  refine rtake 22 _ (some 36) _ rfl rfl (by kernel_rfl) (by kernel_rfl) (by kernel_rfl) (fun _ _ _ h => h) (by rfl) hHeld (by intro w hS; go_simp; try with_reducible rfl) ?_
  try (first | (rw [put_some]; dsimp only [List.set]) | rw [put_none])
  refine rtake 23 _ (some 37) _ rfl rfl (by kernel_rfl) (by kernel_rfl) (by kernel_rfl) (fun _ _ _ h => h) (by rfl) hHeld (by intro w hS; go_simp; try with_reducible rfl) ?_
  try (first | (rw [put_some]; dsimp only [List.set]) | rw [put_none])
  refine wpAnyH_ready (rs := [4]) (by kernel_rfl) (by simp) (AllReadyH.cons (o := _) rfl (fun K hK => ?_) AllReadyH.nil)
  go_simp
  refine (hn0.out _).mono ?_; rintro e ww24 ⟨rfl, hqw24⟩
  try go_wp2_with fail
  refine hK.out _ _ (hHeld.trans (hqw24.mono hHeld.size)) (fun hHeld' => ?_)
  clear hK K
  try (first | (rw [put_some]; dsimp only [List.set]) | rw [put_none])
  have hB := below_step hB hqw24
  have hB4 : Below ww24.heap.size ww24 ww24 := Below.refl _ _
  refine wpAnyH_narrow (S' := fun w' => Below ww24.heap.size ww24 w') (fun _ h => (hHeld.trans (hqw24.mono hHeld.size)).trans (h.mono (hHeld.trans (hqw24.mono hHeld.size)).size)) _ _ _ _ ?_
  clear hHeld
  have hHeld : Below ww24.heap.size ww24 ww24 := Below.refl _ _
  refine rtake 5 _ (some 19) _ rfl rfl (by kernel_rfl) (by kernel_rfl) (by kernel_rfl) (fun _ _ _ h => h) (by rfl) hHeld (by intro w hS; go_simp; rw [if_neg (by (try simp only [ByteArray.size_append, hz0, hz1, hz2, hz3]); (try simp only [show ByteArray.size { data := #[46] } = 1 from rfl]); omega)]) ?_
  try (first | (rw [put_some]; dsimp only [List.set]) | rw [put_none])
  refine wpAnyH_ready (rs := [10]) (by kernel_rfl) (by simp) (AllReadyH.cons (o := _) rfl (fun K hK => ?_) AllReadyH.nil)
  go_simp
  refine (hn1.out _).mono ?_; rintro e ww210 ⟨rfl, hqw210⟩
  try go_wp2_with fail
  refine hK.out _ _ (hHeld.trans (hqw210.mono hHeld.size)) (fun hHeld' => ?_)
  clear hK K
  try (first | (rw [put_some]; dsimp only [List.set]) | rw [put_none])
  have hB := below_step hB hqw210
  have hB4 := below_step hB4 hqw210
  have hB10 : Below ww210.heap.size ww210 ww210 := Below.refl _ _
  refine wpAnyH_narrow (S' := fun w' => Below ww210.heap.size ww210 w') (fun _ h => (hHeld.trans (hqw210.mono hHeld.size)).trans (h.mono (hHeld.trans (hqw210.mono hHeld.size)).size)) _ _ _ _ ?_
  clear hHeld
  have hHeld : Below ww210.heap.size ww210 ww210 := Below.refl _ _
  refine rtake 11 _ (some 25) _ rfl rfl (by kernel_rfl) (by kernel_rfl) (by kernel_rfl) (fun _ _ _ h => h) (by rfl) hHeld (by intro w hS; go_simp; rw [if_neg (by (try simp only [ByteArray.size_append, hz0, hz1, hz2, hz3]); (try simp only [show ByteArray.size { data := #[46] } = 1 from rfl]); omega)]) ?_
  try (first | (rw [put_some]; dsimp only [List.set]) | rw [put_none])
  refine rtake 12 _ (some 26) _ rfl rfl (by kernel_rfl) (by kernel_rfl) (by kernel_rfl) (fun _ _ _ h => h) (by rfl) hHeld (by intro w hS; go_simp; rw [if_neg (by (try simp only [ByteArray.size_append, hz0, hz1, hz2, hz3]); (try simp only [show ByteArray.size { data := #[46] } = 1 from rfl]); omega)]) ?_
  try (first | (rw [put_some]; dsimp only [List.set]) | rw [put_none])
  refine wpAnyH_ready (rs := [17]) (by kernel_rfl) (by simp) (AllReadyH.cons (o := _) rfl (fun K hK => ?_) AllReadyH.nil)
  go_simp
  refine (hn2.out _).mono ?_; rintro e ww217 ⟨rfl, hqw217⟩
  try go_wp2_with fail
  refine hK.out _ _ (hHeld.trans (hqw217.mono hHeld.size)) (fun hHeld' => ?_)
  clear hK K
  try (first | (rw [put_some]; dsimp only [List.set]) | rw [put_none])
  have hB := below_step hB hqw217
  have hB4 := below_step hB4 hqw217
  have hB10 := below_step hB10 hqw217
  have hB17 : Below ww217.heap.size ww217 ww217 := Below.refl _ _
  refine wpAnyH_narrow (S' := fun w' => Below ww217.heap.size ww217 w') (fun _ h => (hHeld.trans (hqw217.mono hHeld.size)).trans (h.mono (hHeld.trans (hqw217.mono hHeld.size)).size)) _ _ _ _ ?_
  clear hHeld
  have hHeld : Below ww217.heap.size ww217 ww217 := Below.refl _ _
  refine rtake 18 _ (some 32) _ rfl rfl (by kernel_rfl) (by kernel_rfl) (by kernel_rfl) (fun _ _ _ h => h) (by rfl) hHeld (by intro w hS; go_simp; rw [if_neg (by (try simp only [ByteArray.size_append, hz0, hz1, hz2, hz3]); (try simp only [show ByteArray.size { data := #[46] } = 1 from rfl]); omega)]) ?_
  try (first | (rw [put_some]; dsimp only [List.set]) | rw [put_none])
  refine rtake 19 _ (some 33) _ rfl rfl (by kernel_rfl) (by kernel_rfl) (by kernel_rfl) (fun _ _ _ h => h) (by rfl) hHeld (by intro w hS; go_simp; rw [if_neg (by (try simp only [ByteArray.size_append, hz0, hz1, hz2, hz3]); (try simp only [show ByteArray.size { data := #[46] } = 1 from rfl]); omega)]) ?_
  try (first | (rw [put_some]; dsimp only [List.set]) | rw [put_none])
  refine wpAnyH_ready (rs := [24]) (by kernel_rfl) (by simp) (AllReadyH.cons (o := _) rfl (fun K hK => ?_) AllReadyH.nil)
  go_simp
  refine (hn3.out _).mono ?_; rintro e ww224 ⟨rfl, hqw224⟩
  try go_wp2_with fail
  refine hK.out _ _ (hHeld.trans (hqw224.mono hHeld.size)) (fun hHeld' => ?_)
  clear hK K
  try (first | (rw [put_some]; dsimp only [List.set]) | rw [put_none])
  have hB := below_step hB hqw224
  have hB4 := below_step hB4 hqw224
  have hB10 := below_step hB10 hqw224
  have hB17 := below_step hB17 hqw224
  have hB24 : Below ww224.heap.size ww224 ww224 := Below.refl _ _
  refine wpAnyH_narrow (S' := fun w' => Below ww224.heap.size ww224 w') (fun _ h => (hHeld.trans (hqw224.mono hHeld.size)).trans (h.mono (hHeld.trans (hqw224.mono hHeld.size)).size)) _ _ _ _ ?_
  clear hHeld
  have hHeld : Below ww224.heap.size ww224 ww224 := Below.refl _ _
  refine rtake 25 _ (some 39) _ rfl rfl (by kernel_rfl) (by kernel_rfl) (by kernel_rfl) (fun _ _ _ h => h) (by rfl) hHeld (by intro w hS; go_simp; rw [if_neg (by (try simp only [ByteArray.size_append, hz0, hz1, hz2, hz3]); (try simp only [show ByteArray.size { data := #[46] } = 1 from rfl]); omega)]) ?_
  try (first | (rw [put_some]; dsimp only [List.set]) | rw [put_none])
  refine rtake 26 _ (some 2) _ rfl rfl (by kernel_rfl) (by kernel_rfl) (by kernel_rfl) (fun _ _ _ h => h) (by rfl) hHeld (by intro w hS; go_simp; try with_reducible rfl) ?_
  try (first | (rw [put_some]; dsimp only [List.set]) | rw [put_none])
  refine wpAnyH_done (by kernel_rfl) ?_ _
  refine NoPanic.normal ?_
  have hBe := hb2.trans (hB.mono hb2.size)
  clear hHeld
  go_wp2
  go_ret
  exact ⟨by rw [HT.out]; simp only [← bstr_cat12]; rfl, hBe⟩
end Go.Proofs.YtflebnbpoboljaaDoor
