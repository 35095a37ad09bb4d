/- LAYER 2: the document's eight words behind a block. -/
import Derived.Test.YtefbopgbikmohaaDoorRf2
import Derived.Test.YtefbopgbikmohaaDoorCmp
namespace Go.Proofs.YtefbopgbikmohaaDoor
open Go.RowKit

@[go_sem] theorem u_notR (a : BitVec 32) : bits .xor .u32 (u a) 4294967295 = u (~~~a) := by
  show IntKind.u32.wrap ((BitVec.ofInt 32 (u a) ^^^ BitVec.ofInt 32 4294967295).toNat : Int) = _
  rw [ofInt_u, show BitVec.ofInt 32 4294967295 = BitVec.allOnes 32 from by decide, BitVec.xor_allOnes]; exact wrap_u _
theorem sl_cell {w : World} {b o c : Nat} {xs : List (BitVec 32)} (h : Sl w (some ⟨b, o, none⟩) c (words xs)) (i : Nat) (hi : i < xs.length) : w.cell? ⟨b, o + i, none⟩ = some (.int .u32 (u (xs.getD i 0#32))) := by
  obtain ⟨b', o', he, _, hc⟩ := h.rd.get (i := i) (by rw [length_words]; exact hi)
  cases he
  rw [hc, get_words _ _ hi]
theorem great_one (x : BitVec 32) : turn x 6 ^^^ turn x 11 ^^^ turn x 25 = great 1 x := by unfold great; rw [if_neg (by decide), if_pos rfl]
theorem great_nil (x : BitVec 32) : turn x 2 ^^^ turn x 13 ^^^ turn x 22 = great 0 x := by unfold great; rw [if_pos rfl]
set_option maxHeartbeats 4000000 in
set_option maxRecDepth 20000 in
theorem rcompress_any (b1 o1 c1' b2 o2 c2' : Nat) (s : St) (l : List UInt8) (hl : l.length = 64) (w : World) (hs1 : Sl w (some ⟨b1, o1, none⟩) c1' (words s.list)) (hs2 : Sl w (some ⟨b2, o2, none⟩) c2' (byts l)) :
    Calls Tryd.prog 29 #[.slice (some ⟨b1, o1, none⟩) 8 c1', .slice (some ⟨b2, o2, none⟩) 64 c2'] w (GaveWords (compS l s).list w) := by
  obtain ⟨i0, hi, hz0, hz1, hz2⟩ := info_parts infoWord
  obtain ⟨ws, hws⟩ : ∃ ws, ws = sched l 64 := ⟨_, rfl⟩
  have hlen : ws.length = 64 := by rw [hws, length_sched]
  have HWS := Lib.hid hws
  clear hws
  have hl8 := Lib.hid (show 8 = (words s.list).length by rw [length_words]; rfl)
  have hm8 : 0 + 8 ≤ maxLen := by unfold maxLen; omega
  go_enter Tryd.func29, Tryd.ntmps29
  go_wp2_with (first
    | (go_at_call 35; refine (rschedule_any b2 o2 c2' l hl _ hs2).mono ?_; rintro e w1 ⟨v1, rfl, hown1, hb1⟩; rw [← HWS.out, hlen] at hown1; obtain ⟨g1, cap1, rfl, _, hgl1⟩ := hown1.form (by omega))
    | (go_at_call 36; refine (rprimes_any _).mono ?_; rintro e w2 ⟨rfl, hp2, hb2⟩; have hb2' := below_step hb1 hb2; have hown2 : (w2.alloc (.cells #[] 40)).ownsRow w.heap.size 40 1 (.slice (some ⟨w2.heap.size, 0, none⟩) 0 0) 0 [] := World.ownsRow_lit w2 #[] 0 hb2'.size (by unfold maxLen; omega) rfl; have hsl2 := (hs1.later (Nat.le_refl _) hb2').later (Nat.le_refl _) ((Below.refl _ w2).alloc (Nat.le_refl _) (.cells #[] 40)); have hb2a := hb2'.alloc hb2'.size (.cells #[] 40))
    | (at_builtin; refine wpList_append_sl rfl (.tmp 19) (.tmp 20) 56 rfl w.heap.size 40 i0 _ 4 Tryd.underlying56 hi hz0 hz1 hz2 rfl _ 0 [] rfl hown2 (some ⟨b1, o1, none⟩) 8 c1' (words s.list) rfl hl8.out hsl2 (words_one _) hm8 (by omega) hb2a.size ?_; intro v3 w3 hown3 hg3; have hb3 : Below w.heap.size w w3 := hb2a.grown hg3 hb2a.size (fun k hk => (hown2.lt k hk).1)))
  have hb23 : Below w2.heap.size w2 w3 := ((Below.refl _ w2).alloc (Nat.le_refl _) _).grown hg3 (by rw [World.size_alloc]; omega) (fun k hk => by have hk' : some w2.heap.size = some k := hk; injection hk' with hk'; omega)
  have hb13 := below_step hb2 hb23
  have hown1' := own_later hown1 hb13 (Nat.le_refl _)
  have hp3 := hp2.later hb23 hp2.lt
  have hg13 : g1 < w3.heap.size := Nat.lt_of_lt_of_le hgl1 hb13.size
  have hp3l := hp3.lt
  simp only [Nat.zero_add, List.nil_append] at hown3
  clear hown1 hb1 hb2 hb2' hown2 hsl2 hb2a hg3 hb23 hb13 hp2 hgl1
  go_loopw [7, 8] (fun v i wr => ∃ k : Nat, k ≤ 64 ∧ i = .int .i64 k ∧ wr.ownsRow w.heap.size 40 1 v 8 (words (roundsS ws s k).list) ∧ Below w3.heap.size w3 wr) (fun _ i _ => 64 - (intOf i).toNat)
  case atStart => exact ⟨0, by omega, rfl, hown3, Below.refl _ _⟩
  case round =>
    clear hown3
    obtain ⟨k, hk, rfl, hown, hb⟩ := hrel
    by_cases hlt : k < 64
    · obtain ⟨g', cap', rfl, _, hgl⟩ := hown.form (by omega)
      have HR := Lib.hid (show roundsS ws s (k + 1) = roundS (roundsS ws s k) (primeW k) (ws.getD k 0#32) from rfl)
      go_wp2_with fail
      have cw : wr.cell? ⟨g1, k, none⟩ = some (.int .u32 (u (ws.getD k 0#32))) := by rw [hb.cell (p := ⟨g1, k, none⟩) hg13]; exact own_cell hown1' k (by omega)
      have cp : wr.cell? ⟨w1.heap.size, k, none⟩ = some (.int .u32 (u (primeW k))) := by rw [u_primeW k hlt]; exact (hp3.later hb hp3l).cube k hlt
      generalize ws.getD k 0#32 = x at *
      generalize roundsS ws s k = st at *
      obtain ⟨a, b, c, d, e, f, g, h⟩ := st
      have n0 : (0 : Int) ≤ (k : Int) := by omega
      have m64 : (k : Int) < 64 := by omega
      have c0 : wr.cell? ⟨g', 0, none⟩ = some (.int .u32 (u a)) := own_cell hown 0 (by show 0 < 8; omega)
      have c1 : wr.cell? ⟨g', 1, none⟩ = some (.int .u32 (u b)) := own_cell hown 1 (by show 1 < 8; omega)
      have c2 : wr.cell? ⟨g', 2, none⟩ = some (.int .u32 (u c)) := own_cell hown 2 (by show 2 < 8; omega)
      have c3 : wr.cell? ⟨g', 3, none⟩ = some (.int .u32 (u d)) := own_cell hown 3 (by show 3 < 8; omega)
      have c4 : wr.cell? ⟨g', 4, none⟩ = some (.int .u32 (u e)) := own_cell hown 4 (by show 4 < 8; omega)
      have c5 : wr.cell? ⟨g', 5, none⟩ = some (.int .u32 (u f)) := own_cell hown 5 (by show 5 < 8; omega)
      have c6 : wr.cell? ⟨g', 6, none⟩ = some (.int .u32 (u g)) := own_cell hown 6 (by show 6 < 8; omega)
      have c7 : wr.cell? ⟨g', 7, none⟩ = some (.int .u32 (u h)) := own_cell hown 7 (by show 7 < 8; omega)
      refine wp_region_noPanic ?_
      refine wp_region_held_drew (S := fun w' => w' = wr.drew) (by kernel_rfl) (rfl) (fun hHeld => ?_)
      refine rtake 0 _ (some 26) _ rfl rfl (by kernel_rfl) (by kernel_rfl) (by kernel_rfl) (fun _ _ _ h => h) (by rfl) rfl (by intro w hS; subst hS; go_simp; try with_reducible rfl) ?_
      try (rw [put_some]; dsimp only [List.set])
      refine rtake 1 _ (some 27) _ rfl rfl (by kernel_rfl) (by kernel_rfl) (by kernel_rfl) (fun _ _ _ h => h) (by rfl) rfl (by intro w hS; subst hS; go_simp; try with_reducible rfl) ?_
      try (rw [put_some]; dsimp only [List.set])
      refine rtake 2 _ (some 28) _ rfl rfl (by kernel_rfl) (by kernel_rfl) (by kernel_rfl) (fun _ _ _ h => h) (by rfl) rfl (by intro w hS; subst hS; go_simp; try with_reducible rfl) ?_
      try (rw [put_some]; dsimp only [List.set])
      refine rtake 4 _ (some 30) _ rfl rfl (by kernel_rfl) (by kernel_rfl) (by kernel_rfl) (fun _ _ _ h => h) (by rfl) rfl (by intro w hS; subst hS; go_simp; try with_reducible rfl) ?_
      try (rw [put_some]; dsimp only [List.set])
      refine rtake 5 _ (some 31) _ rfl rfl (by kernel_rfl) (by kernel_rfl) (by kernel_rfl) (fun _ _ _ h => h) (by rfl) rfl (by intro w hS; subst hS; go_simp; try with_reducible rfl) ?_
      try (rw [put_some]; dsimp only [List.set])
      refine rtake 6 _ (some 32) _ rfl rfl (by kernel_rfl) (by kernel_rfl) (by kernel_rfl) (fun _ _ _ h => h) (by rfl) rfl (by intro w hS; subst hS; go_simp; try with_reducible rfl) ?_
      try (rw [put_some]; dsimp only [List.set])
      refine rtake 9 _ (some 35) _ rfl rfl (by kernel_rfl) (by kernel_rfl) (by kernel_rfl) (fun _ _ _ h => h) (by rfl) rfl (by intro w hS; subst hS; go_simp; try with_reducible rfl) ?_
      try (rw [put_some]; dsimp only [List.set])
      refine rtake 10 _ (some 36) _ rfl rfl (by kernel_rfl) (by kernel_rfl) (by kernel_rfl) (fun _ _ _ h => h) (by rfl) rfl (by intro w hS; subst hS; go_simp; try with_reducible rfl) ?_
      try (rw [put_some]; dsimp only [List.set])
      refine rtake 11 _ (some 37) _ rfl rfl (by kernel_rfl) (by kernel_rfl) (by kernel_rfl) (fun _ _ _ h => h) (by rfl) rfl (by intro w hS; subst hS; go_simp; try with_reducible rfl) ?_
      try (rw [put_some]; dsimp only [List.set])
      refine wpAnyH_ready (rs := [3]) (by kernel_rfl) (by simp) (AllReadyH.cons (o := _) rfl (fun K hK => ?_) AllReadyH.nil)
      go_simp
      refine (rturn2_any _ 6 _ (by decide) (by decide)).mono ?_; rintro e' w' ⟨rfl, rfl⟩
      try go_wp2_with fail
      refine hK.out _ _ rfl (fun _ => ?_)
      clear hK K
      try (rw [put_some]; dsimp only [List.set])
      refine wpAnyH_ready (rs := [7]) (by kernel_rfl) (by simp) (AllReadyH.cons (o := _) rfl (fun K hK => ?_) AllReadyH.nil)
      go_simp
      refine (rturn2_any _ 11 _ (by decide) (by decide)).mono ?_; rintro e' w' ⟨rfl, rfl⟩
      try go_wp2_with fail
      refine hK.out _ _ rfl (fun _ => ?_)
      clear hK K
      try (rw [put_some]; dsimp only [List.set])
      refine rtake 8 _ (some 34) _ rfl rfl (by kernel_rfl) (by kernel_rfl) (by kernel_rfl) (fun _ _ _ h => h) (by rfl) rfl (by intro w hS; subst hS; go_simp; try with_reducible rfl) ?_
      try (rw [put_some]; dsimp only [List.set])
      refine wpAnyH_ready (rs := [12]) (by kernel_rfl) (by simp) (AllReadyH.cons (o := _) rfl (fun K hK => ?_) AllReadyH.nil)
      go_simp
      refine (rturn2_any _ 25 _ (by decide) (by decide)).mono ?_; rintro e' w' ⟨rfl, rfl⟩
      try go_wp2_with fail
      refine hK.out _ _ rfl (fun _ => ?_)
      clear hK K
      try (rw [put_some]; dsimp only [List.set])
      refine rtake 13 _ (some 39) _ rfl rfl (by kernel_rfl) (by kernel_rfl) (by kernel_rfl) (fun _ _ _ h => h) (by rfl) rfl (by intro w hS; subst hS; go_simp; try with_reducible rfl) ?_
      try (rw [put_some]; dsimp only [List.set])
      refine rtake 14 _ (some 9) _ rfl rfl (by kernel_rfl) (by kernel_rfl) (by kernel_rfl) (fun _ _ _ h => h) (by rfl) rfl (by intro w hS; subst hS; go_simp; try with_reducible rfl) ?_
      try (rw [put_some]; dsimp only [List.set])
      refine wpAnyH_done (by kernel_rfl) ?_ _
      refine NoPanic.normal ?_
      rw [great_one]
      generalize hgr : great 1 e = tg
      go_wp2_with fail
      refine wp_region_noPanic ?_
      refine wp_region_held_drew (S := fun w' => w' = wr.drew.drew) (by kernel_rfl) (rfl) (fun hHeld => ?_)
      refine rtake 0 _ (some 40) _ rfl rfl (by kernel_rfl) (by kernel_rfl) (by kernel_rfl) (fun _ _ _ h => h) (by rfl) rfl (by intro w hS; subst hS; go_simp; try with_reducible rfl) ?_
      try (rw [put_some]; dsimp only [List.set])
      refine rtake 1 _ (some 41) _ rfl rfl (by kernel_rfl) (by kernel_rfl) (by kernel_rfl) (fun _ _ _ h => h) (by rfl) rfl (by intro w hS; subst hS; go_simp; try with_reducible rfl) ?_
      try (rw [put_some]; dsimp only [List.set])
      refine rtake 2 _ (some 42) _ rfl rfl (by kernel_rfl) (by kernel_rfl) (by kernel_rfl) (fun _ _ _ h => h) (by rfl) rfl (by intro w hS; subst hS; go_simp; try with_reducible rfl) ?_
      try (rw [put_some]; dsimp only [List.set])
      refine rtake 3 _ (some 43) _ rfl rfl (by kernel_rfl) (by kernel_rfl) (by kernel_rfl) (fun _ _ _ h => h) (by rfl) rfl (by intro w hS; subst hS; go_simp; try with_reducible rfl) ?_
      try (rw [put_some]; dsimp only [List.set])
      refine rtake 4 _ (some 44) _ rfl rfl (by kernel_rfl) (by kernel_rfl) (by kernel_rfl) (fun _ _ _ h => h) (by rfl) rfl (by intro w hS; subst hS; go_simp; try with_reducible rfl) ?_
      try (rw [put_some]; dsimp only [List.set])
      refine rtake 5 _ (some 45) _ rfl rfl (by kernel_rfl) (by kernel_rfl) (by kernel_rfl) (fun _ _ _ h => h) (by rfl) rfl (by intro w hS; subst hS; go_simp; try with_reducible rfl) ?_
      try (rw [put_some]; dsimp only [List.set])
      refine rtake 6 _ (some 46) _ rfl rfl (by kernel_rfl) (by kernel_rfl) (by kernel_rfl) (fun _ _ _ h => h) (by rfl) rfl (by intro w hS; subst hS; go_simp; try with_reducible rfl) ?_
      try (rw [put_some]; dsimp only [List.set])
      refine rtake 7 _ (some 47) _ rfl rfl (by kernel_rfl) (by kernel_rfl) (by kernel_rfl) (fun _ _ _ h => h) (by rfl) rfl (by intro w hS; subst hS; go_simp; try with_reducible rfl) ?_
      try (rw [put_some]; dsimp only [List.set])
      refine rtake 8 _ (some 48) _ rfl rfl (by kernel_rfl) (by kernel_rfl) (by kernel_rfl) (fun _ _ _ h => h) (by rfl) rfl (by intro w hS; subst hS; go_simp; try with_reducible rfl) ?_
      try (rw [put_some]; dsimp only [List.set])
      refine rtake 9 _ (some 49) _ rfl rfl (by kernel_rfl) (by kernel_rfl) (by kernel_rfl) (fun _ _ _ h => h) (by rfl) rfl (by intro w hS; subst hS; go_simp; try with_reducible rfl) ?_
      try (rw [put_some]; dsimp only [List.set])
      refine rtake 10 _ (some 50) _ rfl rfl (by kernel_rfl) (by kernel_rfl) (by kernel_rfl) (fun _ _ _ h => h) (by rfl) rfl (by intro w hS; subst hS; go_simp; try with_reducible rfl) ?_
      try (rw [put_some]; dsimp only [List.set])
      refine rtake 11 _ (some 51) _ rfl rfl (by kernel_rfl) (by kernel_rfl) (by kernel_rfl) (fun _ _ _ h => h) (by rfl) rfl (by intro w hS; subst hS; go_simp; try with_reducible rfl) ?_
      try (rw [put_some]; dsimp only [List.set])
      refine rtake 12 _ (some 52) _ rfl rfl (by kernel_rfl) (by kernel_rfl) (by kernel_rfl) (fun _ _ _ h => h) (by rfl) rfl (by intro w hS; subst hS; go_simp; try with_reducible rfl) ?_
      try (rw [put_some]; dsimp only [List.set])
      refine rtake 13 _ (some 53) _ rfl rfl (by kernel_rfl) (by kernel_rfl) (by kernel_rfl) (fun _ _ _ h => h) (by rfl) rfl (by intro w hS; subst hS; go_simp; try with_reducible rfl) ?_
      try (rw [put_some]; dsimp only [List.set])
      refine rtake 14 _ (some 54) _ rfl rfl (by kernel_rfl) (by kernel_rfl) (by kernel_rfl) (fun _ _ _ h => h) (by rfl) rfl (by intro w hS; subst hS; go_simp; try with_reducible rfl) ?_
      try (rw [put_some]; dsimp only [List.set])
      refine rtake 15 _ (some 55) _ rfl rfl (by kernel_rfl) (by kernel_rfl) (by kernel_rfl) (fun _ _ _ h => h) (by rfl) rfl (by intro w hS; subst hS; go_simp; try with_reducible rfl) ?_
      try (rw [put_some]; dsimp only [List.set])
      refine rtake 16 _ (some 10) _ rfl rfl (by kernel_rfl) (by kernel_rfl) (by kernel_rfl) (fun _ _ _ h => h) (by rfl) rfl (by intro w hS; subst hS; go_simp; try with_reducible rfl) ?_
      try (rw [put_some]; dsimp only [List.set])
      refine wpAnyH_done (by kernel_rfl) ?_ _
      refine NoPanic.normal ?_
      generalize hch : e &&& f ||| ~~~e &&& g = tc
      go_wp2_with fail
      refine wp_region_noPanic ?_
      refine wp_region_held_drew (S := fun w' => w' = wr.drew.drew.drew) (by kernel_rfl) (rfl) (fun hHeld => ?_)
      refine rtake 0 _ (some 56) _ rfl rfl (by kernel_rfl) (by kernel_rfl) (by kernel_rfl) (fun _ _ _ h => h) (by rfl) rfl (by intro w hS; subst hS; go_simp; try with_reducible rfl) ?_
      try (rw [put_some]; dsimp only [List.set])
      refine rtake 1 _ (some 57) _ rfl rfl (by kernel_rfl) (by kernel_rfl) (by kernel_rfl) (fun _ _ _ h => h) (by rfl) rfl (by intro w hS; subst hS; go_simp; try with_reducible rfl) ?_
      try (rw [put_some]; dsimp only [List.set])
      refine rtake 2 _ (some 58) _ rfl rfl (by kernel_rfl) (by kernel_rfl) (by kernel_rfl) (fun _ _ _ h => h) (by rfl) rfl (by intro w hS; subst hS; go_simp; try with_reducible rfl) ?_
      try (rw [put_some]; dsimp only [List.set])
      refine rtake 3 _ (some 59) _ rfl rfl (by kernel_rfl) (by kernel_rfl) (by kernel_rfl) (fun _ _ _ h => h) (by rfl) rfl (by intro w hS; subst hS; go_simp; try with_reducible rfl) ?_
      try (rw [put_some]; dsimp only [List.set])
      refine rtake 4 _ (some 60) _ rfl rfl (by kernel_rfl) (by kernel_rfl) (by kernel_rfl) (fun _ _ _ h => h) (by rfl) rfl (by intro w hS; subst hS; go_simp; try with_reducible rfl) ?_
      try (rw [put_some]; dsimp only [List.set])
      refine rtake 5 _ (some 61) _ rfl rfl (by kernel_rfl) (by kernel_rfl) (by kernel_rfl) (fun _ _ _ h => h) (by rfl) rfl (by intro w hS; subst hS; go_simp; try with_reducible rfl) ?_
      try (rw [put_some]; dsimp only [List.set])
      refine rtake 6 _ (some 62) _ rfl rfl (by kernel_rfl) (by kernel_rfl) (by kernel_rfl) (fun _ _ _ h => h) (by rfl) rfl (by intro w hS; subst hS; go_simp; try with_reducible rfl) ?_
      try (rw [put_some]; dsimp only [List.set])
      refine rtake 7 _ (some 63) _ rfl rfl (by kernel_rfl) (by kernel_rfl) (by kernel_rfl) (fun _ _ _ h => h) (by rfl) rfl (by intro w hS; subst hS; go_simp; try with_reducible rfl) ?_
      try (rw [put_some]; dsimp only [List.set])
      refine rtake 8 _ (some 64) _ rfl rfl (by kernel_rfl) (by kernel_rfl) (by kernel_rfl) (fun _ _ _ h => h) (by rfl) rfl (by intro w hS; subst hS; go_simp; try with_reducible rfl) ?_
      try (rw [put_some]; dsimp only [List.set])
      refine rtake 9 _ (some 65) _ rfl rfl (by kernel_rfl) (by kernel_rfl) (by kernel_rfl) (fun _ _ _ h => h) (by rfl) rfl (by intro w hS; subst hS; go_simp; try with_reducible rfl) ?_
      try (rw [put_some]; dsimp only [List.set])
      refine rtake 10 _ (some 66) _ rfl rfl (by kernel_rfl) (by kernel_rfl) (by kernel_rfl) (fun _ _ _ h => h) (by rfl) rfl (by intro w hS; subst hS; go_simp; try with_reducible rfl) ?_
      try (rw [put_some]; dsimp only [List.set])
      refine rtake 11 _ (some 67) _ rfl rfl (by kernel_rfl) (by kernel_rfl) (by kernel_rfl) (fun _ _ _ h => h) (by rfl) rfl (by intro w hS; subst hS; go_simp; try with_reducible rfl) ?_
      try (rw [put_some]; dsimp only [List.set])
      refine rtake 12 _ (some 68) _ rfl rfl (by kernel_rfl) (by kernel_rfl) (by kernel_rfl) (fun _ _ _ h => h) (by rfl) rfl (by intro w hS; subst hS; go_simp; try with_reducible rfl) ?_
      try (rw [put_some]; dsimp only [List.set])
      refine rtake 13 _ (some 69) _ rfl rfl (by kernel_rfl) (by kernel_rfl) (by kernel_rfl) (fun _ _ _ h => h) (by rfl) rfl (by intro w hS; subst hS; go_simp; try with_reducible rfl) ?_
      try (rw [put_some]; dsimp only [List.set])
      refine rtake 14 _ (some 70) _ rfl rfl (by kernel_rfl) (by kernel_rfl) (by kernel_rfl) (fun _ _ _ h => h) (by rfl) rfl (by intro w hS; subst hS; go_simp; try with_reducible rfl) ?_
      try (rw [put_some]; dsimp only [List.set])
      refine rtake 15 _ (some 71) _ rfl rfl (by kernel_rfl) (by kernel_rfl) (by kernel_rfl) (fun _ _ _ h => h) (by rfl) rfl (by intro w hS; subst hS; go_simp; try with_reducible rfl) ?_
      try (rw [put_some]; dsimp only [List.set])
      refine rtake 16 _ (some 72) _ rfl rfl (by kernel_rfl) (by kernel_rfl) (by kernel_rfl) (fun _ _ _ h => h) (by rfl) rfl (by intro w hS; subst hS; go_simp; try with_reducible rfl) ?_
      try (rw [put_some]; dsimp only [List.set])
      refine rtake 17 _ (some 11) _ rfl rfl (by kernel_rfl) (by kernel_rfl) (by kernel_rfl) (fun _ _ _ h => h) (by rfl) rfl (by intro w hS; subst hS; go_simp; try with_reducible rfl) ?_
      try (rw [put_some]; dsimp only [List.set])
      refine wpAnyH_done (by kernel_rfl) ?_ _
      refine NoPanic.normal ?_
      generalize ht1 : h + tg + tc + primeW k + x = t1
      go_wp2_with fail
      refine wp_region_noPanic ?_
      refine wp_region_held_drew (S := fun w' => w' = wr.drew.drew.drew.drew) (by kernel_rfl) (rfl) (fun hHeld => ?_)
      refine rtake 0 _ (some 73) _ rfl rfl (by kernel_rfl) (by kernel_rfl) (by kernel_rfl) (fun _ _ _ h => h) (by rfl) rfl (by intro w hS; subst hS; go_simp; try with_reducible rfl) ?_
      try (rw [put_some]; dsimp only [List.set])
      refine rtake 1 _ (some 74) _ rfl rfl (by kernel_rfl) (by kernel_rfl) (by kernel_rfl) (fun _ _ _ h => h) (by rfl) rfl (by intro w hS; subst hS; go_simp; try with_reducible rfl) ?_
      try (rw [put_some]; dsimp only [List.set])
      refine rtake 2 _ (some 75) _ rfl rfl (by kernel_rfl) (by kernel_rfl) (by kernel_rfl) (fun _ _ _ h => h) (by rfl) rfl (by intro w hS; subst hS; go_simp; try with_reducible rfl) ?_
      try (rw [put_some]; dsimp only [List.set])
      refine rtake 4 _ (some 77) _ rfl rfl (by kernel_rfl) (by kernel_rfl) (by kernel_rfl) (fun _ _ _ h => h) (by rfl) rfl (by intro w hS; subst hS; go_simp; try with_reducible rfl) ?_
      try (rw [put_some]; dsimp only [List.set])
      refine rtake 5 _ (some 78) _ rfl rfl (by kernel_rfl) (by kernel_rfl) (by kernel_rfl) (fun _ _ _ h => h) (by rfl) rfl (by intro w hS; subst hS; go_simp; try with_reducible rfl) ?_
      try (rw [put_some]; dsimp only [List.set])
      refine rtake 6 _ (some 79) _ rfl rfl (by kernel_rfl) (by kernel_rfl) (by kernel_rfl) (fun _ _ _ h => h) (by rfl) rfl (by intro w hS; subst hS; go_simp; try with_reducible rfl) ?_
      try (rw [put_some]; dsimp only [List.set])
      refine rtake 9 _ (some 82) _ rfl rfl (by kernel_rfl) (by kernel_rfl) (by kernel_rfl) (fun _ _ _ h => h) (by rfl) rfl (by intro w hS; subst hS; go_simp; try with_reducible rfl) ?_
      try (rw [put_some]; dsimp only [List.set])
      refine rtake 10 _ (some 83) _ rfl rfl (by kernel_rfl) (by kernel_rfl) (by kernel_rfl) (fun _ _ _ h => h) (by rfl) rfl (by intro w hS; subst hS; go_simp; try with_reducible rfl) ?_
      try (rw [put_some]; dsimp only [List.set])
      refine rtake 11 _ (some 84) _ rfl rfl (by kernel_rfl) (by kernel_rfl) (by kernel_rfl) (fun _ _ _ h => h) (by rfl) rfl (by intro w hS; subst hS; go_simp; try with_reducible rfl) ?_
      try (rw [put_some]; dsimp only [List.set])
      refine wpAnyH_ready (rs := [3]) (by kernel_rfl) (by simp) (AllReadyH.cons (o := _) rfl (fun K hK => ?_) AllReadyH.nil)
      go_simp
      refine (rturn2_any _ 2 _ (by decide) (by decide)).mono ?_; rintro e' w' ⟨rfl, rfl⟩
      try go_wp2_with fail
      refine hK.out _ _ rfl (fun _ => ?_)
      clear hK K
      try (rw [put_some]; dsimp only [List.set])
      refine wpAnyH_ready (rs := [7]) (by kernel_rfl) (by simp) (AllReadyH.cons (o := _) rfl (fun K hK => ?_) AllReadyH.nil)
      go_simp
      refine (rturn2_any _ 13 _ (by decide) (by decide)).mono ?_; rintro e' w' ⟨rfl, rfl⟩
      try go_wp2_with fail
      refine hK.out _ _ rfl (fun _ => ?_)
      clear hK K
      try (rw [put_some]; dsimp only [List.set])
      refine rtake 8 _ (some 81) _ rfl rfl (by kernel_rfl) (by kernel_rfl) (by kernel_rfl) (fun _ _ _ h => h) (by rfl) rfl (by intro w hS; subst hS; go_simp; try with_reducible rfl) ?_
      try (rw [put_some]; dsimp only [List.set])
      refine wpAnyH_ready (rs := [12]) (by kernel_rfl) (by simp) (AllReadyH.cons (o := _) rfl (fun K hK => ?_) AllReadyH.nil)
      go_simp
      refine (rturn2_any _ 22 _ (by decide) (by decide)).mono ?_; rintro e' w' ⟨rfl, rfl⟩
      try go_wp2_with fail
      refine hK.out _ _ rfl (fun _ => ?_)
      clear hK K
      try (rw [put_some]; dsimp only [List.set])
      refine rtake 13 _ (some 86) _ rfl rfl (by kernel_rfl) (by kernel_rfl) (by kernel_rfl) (fun _ _ _ h => h) (by rfl) rfl (by intro w hS; subst hS; go_simp; try with_reducible rfl) ?_
      try (rw [put_some]; dsimp only [List.set])
      refine rtake 14 _ (some 12) _ rfl rfl (by kernel_rfl) (by kernel_rfl) (by kernel_rfl) (fun _ _ _ h => h) (by rfl) rfl (by intro w hS; subst hS; go_simp; try with_reducible rfl) ?_
      try (rw [put_some]; dsimp only [List.set])
      refine wpAnyH_done (by kernel_rfl) ?_ _
      refine NoPanic.normal ?_
      rw [great_nil]
      generalize hgr0 : great 0 a = tg0
      go_wp2_with fail
      refine wp_region_noPanic ?_
      refine wp_region_held_drew (S := fun w' => w' = wr.drew.drew.drew.drew.drew) (by kernel_rfl) (rfl) (fun hHeld => ?_)
      refine rtake 0 _ (some 87) _ rfl rfl (by kernel_rfl) (by kernel_rfl) (by kernel_rfl) (fun _ _ _ h => h) (by rfl) rfl (by intro w hS; subst hS; go_simp; try with_reducible rfl) ?_
      try (rw [put_some]; dsimp only [List.set])
      refine rtake 1 _ (some 88) _ rfl rfl (by kernel_rfl) (by kernel_rfl) (by kernel_rfl) (fun _ _ _ h => h) (by rfl) rfl (by intro w hS; subst hS; go_simp; try with_reducible rfl) ?_
      try (rw [put_some]; dsimp only [List.set])
      refine rtake 2 _ (some 89) _ rfl rfl (by kernel_rfl) (by kernel_rfl) (by kernel_rfl) (fun _ _ _ h => h) (by rfl) rfl (by intro w hS; subst hS; go_simp; try with_reducible rfl) ?_
      try (rw [put_some]; dsimp only [List.set])
      refine rtake 3 _ (some 90) _ rfl rfl (by kernel_rfl) (by kernel_rfl) (by kernel_rfl) (fun _ _ _ h => h) (by rfl) rfl (by intro w hS; subst hS; go_simp; try with_reducible rfl) ?_
      try (rw [put_some]; dsimp only [List.set])
      refine rtake 4 _ (some 91) _ rfl rfl (by kernel_rfl) (by kernel_rfl) (by kernel_rfl) (fun _ _ _ h => h) (by rfl) rfl (by intro w hS; subst hS; go_simp; try with_reducible rfl) ?_
      try (rw [put_some]; dsimp only [List.set])
      refine rtake 5 _ (some 92) _ rfl rfl (by kernel_rfl) (by kernel_rfl) (by kernel_rfl) (fun _ _ _ h => h) (by rfl) rfl (by intro w hS; subst hS; go_simp; try with_reducible rfl) ?_
      try (rw [put_some]; dsimp only [List.set])
      refine rtake 6 _ (some 93) _ rfl rfl (by kernel_rfl) (by kernel_rfl) (by kernel_rfl) (fun _ _ _ h => h) (by rfl) rfl (by intro w hS; subst hS; go_simp; try with_reducible rfl) ?_
      try (rw [put_some]; dsimp only [List.set])
      refine rtake 7 _ (some 94) _ rfl rfl (by kernel_rfl) (by kernel_rfl) (by kernel_rfl) (fun _ _ _ h => h) (by rfl) rfl (by intro w hS; subst hS; go_simp; try with_reducible rfl) ?_
      try (rw [put_some]; dsimp only [List.set])
      refine rtake 8 _ (some 95) _ rfl rfl (by kernel_rfl) (by kernel_rfl) (by kernel_rfl) (fun _ _ _ h => h) (by rfl) rfl (by intro w hS; subst hS; go_simp; try with_reducible rfl) ?_
      try (rw [put_some]; dsimp only [List.set])
      refine rtake 9 _ (some 96) _ rfl rfl (by kernel_rfl) (by kernel_rfl) (by kernel_rfl) (fun _ _ _ h => h) (by rfl) rfl (by intro w hS; subst hS; go_simp; try with_reducible rfl) ?_
      try (rw [put_some]; dsimp only [List.set])
      refine rtake 10 _ (some 97) _ rfl rfl (by kernel_rfl) (by kernel_rfl) (by kernel_rfl) (fun _ _ _ h => h) (by rfl) rfl (by intro w hS; subst hS; go_simp; try with_reducible rfl) ?_
      try (rw [put_some]; dsimp only [List.set])
      refine rtake 11 _ (some 98) _ rfl rfl (by kernel_rfl) (by kernel_rfl) (by kernel_rfl) (fun _ _ _ h => h) (by rfl) rfl (by intro w hS; subst hS; go_simp; try with_reducible rfl) ?_
      try (rw [put_some]; dsimp only [List.set])
      refine rtake 12 _ (some 99) _ rfl rfl (by kernel_rfl) (by kernel_rfl) (by kernel_rfl) (fun _ _ _ h => h) (by rfl) rfl (by intro w hS; subst hS; go_simp; try with_reducible rfl) ?_
      try (rw [put_some]; dsimp only [List.set])
      refine rtake 13 _ (some 100) _ rfl rfl (by kernel_rfl) (by kernel_rfl) (by kernel_rfl) (fun _ _ _ h => h) (by rfl) rfl (by intro w hS; subst hS; go_simp; try with_reducible rfl) ?_
      try (rw [put_some]; dsimp only [List.set])
      refine rtake 14 _ (some 101) _ rfl rfl (by kernel_rfl) (by kernel_rfl) (by kernel_rfl) (fun _ _ _ h => h) (by rfl) rfl (by intro w hS; subst hS; go_simp; try with_reducible rfl) ?_
      try (rw [put_some]; dsimp only [List.set])
      refine rtake 15 _ (some 102) _ rfl rfl (by kernel_rfl) (by kernel_rfl) (by kernel_rfl) (fun _ _ _ h => h) (by rfl) rfl (by intro w hS; subst hS; go_simp; try with_reducible rfl) ?_
      try (rw [put_some]; dsimp only [List.set])
      refine rtake 16 _ (some 103) _ rfl rfl (by kernel_rfl) (by kernel_rfl) (by kernel_rfl) (fun _ _ _ h => h) (by rfl) rfl (by intro w hS; subst hS; go_simp; try with_reducible rfl) ?_
      try (rw [put_some]; dsimp only [List.set])
      refine rtake 17 _ (some 104) _ rfl rfl (by kernel_rfl) (by kernel_rfl) (by kernel_rfl) (fun _ _ _ h => h) (by rfl) rfl (by intro w hS; subst hS; go_simp; try with_reducible rfl) ?_
      try (rw [put_some]; dsimp only [List.set])
      refine rtake 18 _ (some 105) _ rfl rfl (by kernel_rfl) (by kernel_rfl) (by kernel_rfl) (fun _ _ _ h => h) (by rfl) rfl (by intro w hS; subst hS; go_simp; try with_reducible rfl) ?_
      try (rw [put_some]; dsimp only [List.set])
      refine rtake 19 _ (some 106) _ rfl rfl (by kernel_rfl) (by kernel_rfl) (by kernel_rfl) (fun _ _ _ h => h) (by rfl) rfl (by intro w hS; subst hS; go_simp; try with_reducible rfl) ?_
      try (rw [put_some]; dsimp only [List.set])
      refine rtake 20 _ (some 107) _ rfl rfl (by kernel_rfl) (by kernel_rfl) (by kernel_rfl) (fun _ _ _ h => h) (by rfl) rfl (by intro w hS; subst hS; go_simp; try with_reducible rfl) ?_
      try (rw [put_some]; dsimp only [List.set])
      refine rtake 21 _ (some 108) _ rfl rfl (by kernel_rfl) (by kernel_rfl) (by kernel_rfl) (fun _ _ _ h => h) (by rfl) rfl (by intro w hS; subst hS; go_simp; try with_reducible rfl) ?_
      try (rw [put_some]; dsimp only [List.set])
      refine rtake 22 _ (some 109) _ rfl rfl (by kernel_rfl) (by kernel_rfl) (by kernel_rfl) (fun _ _ _ h => h) (by rfl) rfl (by intro w hS; subst hS; go_simp; try with_reducible rfl) ?_
      try (rw [put_some]; dsimp only [List.set])
      refine rtake 23 _ (some 13) _ rfl rfl (by kernel_rfl) (by kernel_rfl) (by kernel_rfl) (fun _ _ _ h => h) (by rfl) rfl (by intro w hS; subst hS; go_simp; try with_reducible rfl) ?_
      try (rw [put_some]; dsimp only [List.set])
      refine wpAnyH_done (by kernel_rfl) ?_ _
      refine NoPanic.normal ?_
      generalize hmo : a &&& b ||| a &&& c ||| b &&& c = tm
      go_wp2_with fail
      refine wp_region_noPanic ?_
      refine wp_region_held_drew (S := fun w' => w'.cell? ⟨g', 0, none⟩ = some (.int .u32 (u a)) ∧ w'.cell? ⟨g', 1, none⟩ = some (.int .u32 (u b)) ∧ w'.cell? ⟨g', 2, none⟩ = some (.int .u32 (u c)) ∧ w'.cell? ⟨g', 3, none⟩ = some (.int .u32 (u d)) ∧ w'.cell? ⟨g', 4, none⟩ = some (.int .u32 (u e)) ∧ w'.cell? ⟨g', 5, none⟩ = some (.int .u32 (u f)) ∧ w'.cell? ⟨g', 6, none⟩ = some (.int .u32 (u g))) (by kernel_rfl) (⟨c0, c1, c2, c3, c4, c5, c6⟩) (fun hHeld => ?_)
      refine rtake 0 _ (some 113) _ rfl rfl (by kernel_rfl) (by kernel_rfl) (by kernel_rfl) (fun _ _ _ h => h) (by rfl) hHeld (by intro w hS; obtain ⟨s0, s1, s2, s3, s4, s5, s6⟩ := hS; go_simp; try with_reducible rfl) ?_
      try (rw [put_some]; dsimp only [List.set])
      refine rtake 1 _ (some 114) _ rfl rfl (by kernel_rfl) (by kernel_rfl) (by kernel_rfl) (fun _ _ _ h => h) (by rfl) hHeld (by intro w hS; obtain ⟨s0, s1, s2, s3, s4, s5, s6⟩ := hS; go_simp; try with_reducible rfl) ?_
      try (rw [put_some]; dsimp only [List.set])
      refine rtake 2 _ (some 115) _ rfl rfl (by kernel_rfl) (by kernel_rfl) (by kernel_rfl) (fun _ _ _ h => h) (by rfl) hHeld (by intro w hS; obtain ⟨s0, s1, s2, s3, s4, s5, s6⟩ := hS; go_simp; try with_reducible rfl) ?_
      try (rw [put_some]; dsimp only [List.set])
      refine rtake 3 _ (some 116) _ rfl rfl (by kernel_rfl) (by kernel_rfl) (by kernel_rfl) (fun _ _ _ h => h) (by rfl) hHeld (by intro w hS; obtain ⟨s0, s1, s2, s3, s4, s5, s6⟩ := hS; go_simp; try with_reducible rfl) ?_
      try (rw [put_some]; dsimp only [List.set])
      refine rtake 4 _ (some 117) _ rfl rfl (by kernel_rfl) (by kernel_rfl) (by kernel_rfl) (fun _ _ _ h => h) (by rfl) hHeld (by intro w hS; obtain ⟨s0, s1, s2, s3, s4, s5, s6⟩ := hS; go_simp; try with_reducible rfl) ?_
      try (rw [put_some]; dsimp only [List.set])
      refine rtake 5 _ (some 118) _ rfl rfl (by kernel_rfl) (by kernel_rfl) (by kernel_rfl) (fun _ _ _ h => h) (by rfl) hHeld (by intro w hS; obtain ⟨s0, s1, s2, s3, s4, s5, s6⟩ := hS; go_simp; try with_reducible rfl) ?_
      try (rw [put_some]; dsimp only [List.set])
      refine rtake 6 _ (some 119) _ rfl rfl (by kernel_rfl) (by kernel_rfl) (by kernel_rfl) (fun _ _ _ h => h) (by rfl) hHeld (by intro w hS; obtain ⟨s0, s1, s2, s3, s4, s5, s6⟩ := hS; go_simp; try with_reducible rfl) ?_
      try (rw [put_some]; dsimp only [List.set])
      refine rtake 7 _ (some 120) _ rfl rfl (by kernel_rfl) (by kernel_rfl) (by kernel_rfl) (fun _ _ _ h => h) (by rfl) hHeld (by intro w hS; obtain ⟨s0, s1, s2, s3, s4, s5, s6⟩ := hS; go_simp; try with_reducible rfl) ?_
      try (rw [put_some]; dsimp only [List.set])
      refine rtake 8 _ (some 121) _ rfl rfl (by kernel_rfl) (by kernel_rfl) (by kernel_rfl) (fun _ _ _ h => h) (by rfl) hHeld (by intro w hS; obtain ⟨s0, s1, s2, s3, s4, s5, s6⟩ := hS; go_simp; try with_reducible rfl) ?_
      try (rw [put_some]; dsimp only [List.set])
      refine rtake 9 _ (some 122) _ rfl rfl (by kernel_rfl) (by kernel_rfl) (by kernel_rfl) (fun _ _ _ h => h) (by rfl) hHeld (by intro w hS; obtain ⟨s0, s1, s2, s3, s4, s5, s6⟩ := hS; go_simp; try with_reducible rfl) ?_
      try (rw [put_some]; dsimp only [List.set])
      refine rtake 10 _ (some 123) _ rfl rfl (by kernel_rfl) (by kernel_rfl) (by kernel_rfl) (fun _ _ _ h => h) (by rfl) hHeld (by intro w hS; obtain ⟨s0, s1, s2, s3, s4, s5, s6⟩ := hS; go_simp; try with_reducible rfl) ?_
      try (rw [put_some]; dsimp only [List.set])
      refine rtake 11 _ (some 124) _ rfl rfl (by kernel_rfl) (by kernel_rfl) (by kernel_rfl) (fun _ _ _ h => h) (by rfl) hHeld (by intro w hS; obtain ⟨s0, s1, s2, s3, s4, s5, s6⟩ := hS; go_simp; try with_reducible rfl) ?_
      try (rw [put_some]; dsimp only [List.set])
      refine rtake 12 _ (some 125) _ rfl rfl (by kernel_rfl) (by kernel_rfl) (by kernel_rfl) (fun _ _ _ h => h) (by rfl) hHeld (by intro w hS; obtain ⟨s0, s1, s2, s3, s4, s5, s6⟩ := hS; go_simp; try with_reducible rfl) ?_
      try (rw [put_some]; dsimp only [List.set])
      refine rtake 13 _ (some 126) _ rfl rfl (by kernel_rfl) (by kernel_rfl) (by kernel_rfl) (fun _ _ _ h => h) (by rfl) hHeld (by intro w hS; obtain ⟨s0, s1, s2, s3, s4, s5, s6⟩ := hS; go_simp; try with_reducible rfl) ?_
      try (rw [put_some]; dsimp only [List.set])
      refine rtake 14 _ (some 127) _ rfl rfl (by kernel_rfl) (by kernel_rfl) (by kernel_rfl) (fun _ _ _ h => h) (by rfl) hHeld (by intro w hS; obtain ⟨s0, s1, s2, s3, s4, s5, s6⟩ := hS; go_simp; try with_reducible rfl) ?_
      try (rw [put_some]; dsimp only [List.set])
      refine rtake 15 _ (some 128) _ rfl rfl (by kernel_rfl) (by kernel_rfl) (by kernel_rfl) (fun _ _ _ h => h) (by rfl) hHeld (by intro w hS; obtain ⟨s0, s1, s2, s3, s4, s5, s6⟩ := hS; go_simp; try with_reducible rfl) ?_
      try (rw [put_some]; dsimp only [List.set])
      refine rtake 16 _ (some 129) _ rfl rfl (by kernel_rfl) (by kernel_rfl) (by kernel_rfl) (fun _ _ _ h => h) (by rfl) hHeld (by intro w hS; obtain ⟨s0, s1, s2, s3, s4, s5, s6⟩ := hS; go_simp; try with_reducible rfl) ?_
      try (rw [put_some]; dsimp only [List.set])
      refine rtake 17 _ (some 130) _ rfl rfl (by kernel_rfl) (by kernel_rfl) (by kernel_rfl) (fun _ _ _ h => h) (by rfl) hHeld (by intro w hS; obtain ⟨s0, s1, s2, s3, s4, s5, s6⟩ := hS; go_simp; try with_reducible rfl) ?_
      try (rw [put_some]; dsimp only [List.set])
      refine rtake 18 _ (some 131) _ rfl rfl (by kernel_rfl) (by kernel_rfl) (by kernel_rfl) (fun _ _ _ h => h) (by rfl) hHeld (by intro w hS; obtain ⟨s0, s1, s2, s3, s4, s5, s6⟩ := hS; go_simp; try with_reducible rfl) ?_
      try (rw [put_some]; dsimp only [List.set])
      refine rtake 19 _ (some 132) _ rfl rfl (by kernel_rfl) (by kernel_rfl) (by kernel_rfl) (fun _ _ _ h => h) (by rfl) hHeld (by intro w hS; obtain ⟨s0, s1, s2, s3, s4, s5, s6⟩ := hS; go_simp; try with_reducible rfl) ?_
      try (rw [put_some]; dsimp only [List.set])
      refine rtake 20 _ (some 133) _ rfl rfl (by kernel_rfl) (by kernel_rfl) (by kernel_rfl) (fun _ _ _ h => h) (by rfl) hHeld (by intro w hS; obtain ⟨s0, s1, s2, s3, s4, s5, s6⟩ := hS; go_simp; try with_reducible rfl) ?_
      try (rw [put_some]; dsimp only [List.set])
      refine rtake 21 _ (some 134) _ rfl rfl (by kernel_rfl) (by kernel_rfl) (by kernel_rfl) (fun _ _ _ h => h) (by rfl) hHeld (by intro w hS; obtain ⟨s0, s1, s2, s3, s4, s5, s6⟩ := hS; go_simp; try with_reducible rfl) ?_
      try (rw [put_some]; dsimp only [List.set])
      refine rtake 22 _ (some 135) _ rfl rfl (by kernel_rfl) (by kernel_rfl) (by kernel_rfl) (fun _ _ _ h => h) (by rfl) hHeld (by intro w hS; obtain ⟨s0, s1, s2, s3, s4, s5, s6⟩ := hS; go_simp; try with_reducible rfl) ?_
      try (rw [put_some]; dsimp only [List.set])
      refine rtake 23 _ (some 136) _ rfl rfl (by kernel_rfl) (by kernel_rfl) (by kernel_rfl) (fun _ _ _ h => h) (by rfl) hHeld (by intro w hS; obtain ⟨s0, s1, s2, s3, s4, s5, s6⟩ := hS; go_simp; try with_reducible rfl) ?_
      try (rw [put_some]; dsimp only [List.set])
      refine rtake 24 _ (some 137) _ rfl rfl (by kernel_rfl) (by kernel_rfl) (by kernel_rfl) (fun _ _ _ h => h) (by rfl) hHeld (by intro w hS; obtain ⟨s0, s1, s2, s3, s4, s5, s6⟩ := hS; go_simp; try with_reducible rfl) ?_
      try (rw [put_some]; dsimp only [List.set])
      refine rtake 25 _ (some 138) _ rfl rfl (by kernel_rfl) (by kernel_rfl) (by kernel_rfl) (fun _ _ _ h => h) (by rfl) hHeld (by intro w hS; obtain ⟨s0, s1, s2, s3, s4, s5, s6⟩ := hS; go_simp; try with_reducible rfl) ?_
      try (rw [put_some]; dsimp only [List.set])
      refine wpAnyH_ready (rs := [26]) (by kernel_rfl) (by simp) (AllReadyH.cons (o := _) rfl (fun K hK => ?_) AllReadyH.nil)
      go_simp
      refine hK.out _ _ (by exact ⟨(World.cell?_alloc_lt _ _ _ hgl).trans c0, (World.cell?_alloc_lt _ _ _ hgl).trans c1, (World.cell?_alloc_lt _ _ _ hgl).trans c2, (World.cell?_alloc_lt _ _ _ hgl).trans c3, (World.cell?_alloc_lt _ _ _ hgl).trans c4, (World.cell?_alloc_lt _ _ _ hgl).trans c5, (World.cell?_alloc_lt _ _ _ hgl).trans c6⟩) (fun hHeld => ?_)
      clear hK K
      try (rw [put_some]; dsimp only [List.set])
      refine rtake 27 _ (some 7) _ rfl rfl (by kernel_rfl) (by kernel_rfl) (by kernel_rfl) (fun _ _ _ h => h) (by rfl) hHeld (by intro w hS; obtain ⟨s0, s1, s2, s3, s4, s5, s6⟩ := hS; go_simp; try with_reducible rfl) ?_
      try (rw [put_some]; dsimp only [List.set])
      refine wpAnyH_done (by kernel_rfl) ?_ _
      refine NoPanic.normal ?_
      have hbs := hb.size
      have hbd := (hb.alloc hbs (.cells #[Value.int .u32 (u (t1 + (tg0 + tm))), Value.int .u32 (u a), Value.int .u32 (u b), Value.int .u32 (u c), Value.int .u32 (u (d + t1)), Value.int .u32 (u e), Value.int .u32 (u f), Value.int .u32 (u g)] 40)).drew.drew.drew.drew.drew.drew
      have hs3 := hb3.size
      clear c0 c1 c2 c3 c4 c5 c6 c7 cw cp n0 m64 hHeld hb hown hgl
      go_wp2_with fail
      go_roundw
      case rel =>
        refine ⟨k + 1, by omega, by go_num, ?_, hbd⟩
        rw [HR.out]
        have ho := World.ownsRow_lit (base := w.heap.size) (e := 40) (size := 1) wr #[Value.int .u32 (u (t1 + (tg0 + tm))), Value.int .u32 (u a), Value.int .u32 (u b), Value.int .u32 (u c), Value.int .u32 (u (d + t1)), Value.int .u32 (u e), Value.int .u32 (u f), Value.int .u32 (u g)] 8 (by omega) (by unfold maxLen; omega) rfl
        rw [← ht1, ← hgr, ← hch, ← hgr0, ← hmo] at ho ⊢
        exact ho
      case measure => simp [intOf]; omega
    · have e64 : k = 64 := by omega
      rw [e64] at hown
      generalize hst : roundsS ws s 64 = st at *
      have HST := Lib.hid hst
      clear hst e64 hown1' hp3 hg13 hp3l
      obtain ⟨g', cap', rfl, hgb, hgl⟩ := hown.form (by omega)
      go_wp2_with fail
      have hA8 : (addS st s).list.length = 8 := rfl
      have hB8 : st.list.length = 8 := rfl
      have hbw := hb3.trans (hb.mono hb3.size)
      have hb1w := sl_lt hs1 (by rw [← hl8.out]; omega)
      have hne : (⟨g', 0, none⟩ : Addr).block ≠ b1 := by show g' ≠ b1; omega
      rw [show words st.list = words (mixL (addS st s).list st.list 0) from rfl] at hown
      clear hb hb3 hgl
      go_loopw [142] (fun i wr => ∃ k : Nat, k ≤ 8 ∧ i = .int .i64 k ∧ wr.ownsRow w.heap.size 40 1 (.slice (some ⟨g', 0, none⟩) 8 cap') 8 (words (mixL (addS st s).list st.list k)) ∧ Below w.heap.size w wr) (fun i _ => 8 - (intOf i).toNat)
      case atStart => exact ⟨0, by omega, rfl, hown, hbw⟩
      case round =>
        clear hown hbw
        obtain ⟨i, hi8, rfl, hown, hb⟩ := hrel
        by_cases hlt8 : i < 8
        · go_wp2_with fail
          have c1 := own_cell hown i (by rw [length_mixL _ _ _ hA8 hB8]; exact hlt8)
          rw [mixL_get _ _ _ hA8 hB8 hlt8] at c1
          have c2 := sl_cell (hs1.later (Nat.le_refl _) hb.drew) i (by have h := hl8.out; rw [length_words] at h; omega)
          have hsum := addS_get st s i hlt8
          have hset := mixL_set (addS st s).list st.list i hA8 hB8 hlt8
          obtain ⟨ys, hrow⟩ := Row.of_own hown
          have hf := hrow.free i
          generalize st.list.getD i 0#32 = y at *
          generalize s.list.getD i 0#32 = z at *
          have n0 : (0 : Int) ≤ (i : Int) := by omega
          have n8 : (i : Int) < 8 := by omega
          clear hrow
          refine wp_region_noPanic ?_
          refine wp_region_held_drew (S := fun w' => w'.cell? ⟨b1, o1 + i, none⟩ = some (.int .u32 (u z))) (by kernel_rfl) (c2) (fun hHeld => ?_)
          refine rtake 0 _ (some 145) _ rfl rfl (by kernel_rfl) (by kernel_rfl) (by kernel_rfl) (fun _ _ _ h => h) (by rfl) hHeld (by intro w hS; go_simp; try with_reducible rfl) ?_
          try (rw [put_some]; dsimp only [List.set])
          refine rtake 1 _ (some 146) _ rfl rfl (by kernel_rfl) (by kernel_rfl) (by kernel_rfl) (fun _ _ _ h => h) (by rfl) hHeld (by intro w hS; go_simp; try with_reducible rfl) ?_
          try (rw [put_some]; dsimp only [List.set])
          refine rtake 2 _ (some 147) _ rfl rfl (by kernel_rfl) (by kernel_rfl) (by kernel_rfl) (fun _ _ _ h => h) (by rfl) hHeld (by intro w hS; go_simp; try with_reducible rfl) ?_
          try (rw [put_some]; dsimp only [List.set])
          refine rtake 3 _ (some 148) _ rfl rfl (by kernel_rfl) (by kernel_rfl) (by kernel_rfl) (fun _ _ _ h => h) (by rfl) hHeld (by intro w hS; go_simp; try with_reducible rfl) ?_
          try (rw [put_some]; dsimp only [List.set])
          refine rtake 4 _ (some 149) _ rfl rfl (by kernel_rfl) (by kernel_rfl) (by kernel_rfl) (fun _ _ _ h => h) (by rfl) hHeld (by intro w hS; go_simp; try with_reducible rfl) ?_
          try (rw [put_some]; dsimp only [List.set])
          refine rtake 6 _ (some 151) _ rfl rfl (by kernel_rfl) (by kernel_rfl) (by kernel_rfl) (fun _ _ _ h => h) (by rfl) hHeld (by intro w hS; go_simp; try with_reducible rfl) ?_
          try (rw [put_some]; dsimp only [List.set])
          refine rtake 7 _ (some 152) _ rfl rfl (by kernel_rfl) (by kernel_rfl) (by kernel_rfl) (fun _ _ _ h => h) (by rfl) hHeld (by intro w hS; go_simp; try with_reducible rfl) ?_
          try (rw [put_some]; dsimp only [List.set])
          refine rtake 8 _ (some 153) _ rfl rfl (by kernel_rfl) (by kernel_rfl) (by kernel_rfl) (fun _ _ _ h => h) (by rfl) hHeld (by intro w hS; go_simp; try with_reducible rfl) ?_
          try (rw [put_some]; dsimp only [List.set])
          refine rtake 9 _ (some 154) _ rfl rfl (by kernel_rfl) (by kernel_rfl) (by kernel_rfl) (fun _ _ _ h => h) (by rfl) hHeld (by intro w hS; go_simp; try with_reducible rfl) ?_
          try (rw [put_some]; dsimp only [List.set])
          refine wpAnyH_ready (rs := [5]) (by kernel_rfl) (by simp) (AllReadyH.cons (o := _) rfl (fun K hK => ?_) AllReadyH.nil)
          go_simp
          refine hK.out _ _ (hHeld) (fun hHeld => ?_)
          clear hK K
          try (rw [put_some]; dsimp only [List.set])
          refine rtake 10 _ (some 155) _ rfl rfl (by kernel_rfl) (by kernel_rfl) (by kernel_rfl) (fun _ _ _ h => h) (by rfl) hHeld (by intro w hS; go_simp; try with_reducible rfl) ?_
          try (rw [put_some]; dsimp only [List.set])
          refine rtake 11 _ (some 156) _ rfl rfl (by kernel_rfl) (by kernel_rfl) (by kernel_rfl) (fun _ _ _ h => h) (by rfl) hHeld (by intro w hS; go_simp; try with_reducible rfl) ?_
          try (rw [put_some]; dsimp only [List.set])
          refine wpAnyH_ready (rs := [12]) (by kernel_rfl) (by simp) (AllReadyH.cons (o := _) rfl (fun K hK => ?_) AllReadyH.nil)
          go_simp
          refine hK.out _ _ (by exact (World.cell?_setCell_far _ _ _ _ hne).trans c2) (fun _ => ?_)
          clear hK K
          try (rw [put_some]; dsimp only [List.set])
          refine wpAnyH_done (by kernel_rfl) ?_ _
          refine NoPanic.normal ?_
          have hos := (own_set hown i (.int .u32 (u (y + z)))).drew
          rw [← hsum, hset, hsum] at hos
          have hbs := (hb.setCell (p := ⟨g', i, none⟩) (by show w.heap.size ≤ g'; exact hgb) (.int .u32 (u (y + z)))).drew
          clear c1 c2 hf n0 n8 hset hown hb
          go_wp2_with fail
          go_roundw
          case rel => exact ⟨i + 1, by omega, by go_num, hos, hbs⟩
          case measure => simp [intOf]; omega
        · have e8 : i = 8 := by omega
          rw [e8] at hown
          have hz : mixL (addS st s).list st.list 8 = (addS st s).list := rfl
          have hcomp : compS l s = addS (roundsS ws s 64) s := by unfold compS; rw [HWS.out]
          rw [HST.out] at hcomp
          rw [hz, ← hcomp] at hown
          have hl9 : (compS l s).list.length = 8 := rfl
          generalize (compS l s).list = cs at *
          go_wp2
          go_ret
          exact ⟨_, rfl, by rw [hl9]; exact hown, hb⟩
end Go.Proofs.YtefbopgbikmohaaDoor
