/- Texts of this claim, one behind the other. -/
import Derived.Test.YtnkkgclmmaakgaaDoorRbag
import Derived.Test.YtnkkgclmmaakgaaDoorRbaf
import Derived.Test.YtnkkgclmmaakgaaDoorRbae
import Derived.Test.YtnkkgclmmaakgaaDoorRbaa
import Derived.Deep.AppendLies
/- LAYER 2: the document's eight words behind a block. -/
namespace Go.Proofs.YtnkkgclmmaakgaaDoor
set_option maxRecDepth 100000
open Go.RowKit

@[go_sem] theorem u_notR (a : BitVec 32) : bits .xor .u32 (u a) 4294967295 = u (~~~a) := by
  show IntKind.u32.wrap ((BitVec.ofInt 32 (u a) ^^^ BitVec.ofInt 32 4294967295).toNat : Int) = _
  rw [ofInt_u, show BitVec.ofInt 32 4294967295 = BitVec.allOnes 32 from by decide, BitVec.xor_allOnes]; exact wrap_u _
theorem sl_cell {w : World} {b o c : Nat} {xs : List (BitVec 32)} (h : Sl w (some ⟨b, o, none⟩) c (words xs)) (i : Nat) (hi : i < xs.length) : w.cell? ⟨b, o + i, none⟩ = some (.int .u32 (u (xs.getD i 0#32))) := by
  obtain ⟨b', o', he, _, hc⟩ := h.rd.get (i := i) (by rw [length_words]; exact hi)
  cases he
  rw [hc, get_words _ _ hi]
theorem great_one (x : BitVec 32) : turn x 6 ^^^ turn x 11 ^^^ turn x 25 = great 1 x := by unfold great; rw [if_neg (by decide), if_pos rfl]
theorem great_nil (x : BitVec 32) : turn x 2 ^^^ turn x 13 ^^^ turn x 22 = great 0 x := by unfold great; rw [if_pos rfl]
set_option maxHeartbeats 4000000 in
set_option maxRecDepth 100000 in
theorem rcompress_any (b1 o1 c1' b2 o2 c2' : Nat) (s : St) (l : List UInt8) (hl : l.length = 64) (w : World) (hs1 : Sl w (some ⟨b1, o1, none⟩) c1' (words s.list)) (hs2 : Sl w (some ⟨b2, o2, none⟩) c2' (byts l)) :
    Calls Tryd.prog 58 #[.slice (some ⟨b1, o1, none⟩) 8 c1', .slice (some ⟨b2, o2, none⟩) 64 c2'] w (GaveWords (compS l s).list w) := by
  obtain ⟨i0, hi, hz0, hz1, hz2⟩ := info_parts infoWord
  obtain ⟨ws, hws⟩ : ∃ ws, ws = sched l 64 := ⟨_, rfl⟩
  have hlen : ws.length = 64 := by rw [hws, length_sched]
  have HWS := Lib.hid hws
  clear hws
  have hl8 := Lib.hid (show 8 = (words s.list).length by rw [length_words]; rfl)
  have hm8 : 0 + 8 ≤ maxLen := by unfold maxLen; omega
  go_enter Tryd.func58, Tryd.ntmps58
  go_wp2_with (first
    | (go_at_call 65; refine (rschedule_any b2 o2 c2' l hl _ hs2).mono ?_; rintro e w1 ⟨v1, rfl, hown1, hb1⟩; rw [← HWS.out, hlen] at hown1; obtain ⟨g1, cap1, rfl, _, hgl1⟩ := hown1.form (by omega))
    | (go_at_call 66; refine (rprimes_any _).mono ?_; rintro e w2 ⟨rfl, hp2, hb2⟩; have hb2' := below_step hb1 hb2; have hown2 : (w2.alloc (.cells #[] 89)).ownsRow w.heap.size 89 1 (.slice (some ⟨w2.heap.size, 0, none⟩) 0 0) 0 [] := World.ownsRow_lit w2 #[] 0 hb2'.size (by unfold maxLen; omega) rfl; have hsl2 := (hs1.later (Nat.le_refl _) hb2').later (Nat.le_refl _) ((Below.refl _ w2).alloc (Nat.le_refl _) (.cells #[] 89)); have hb2a := hb2'.alloc hb2'.size (.cells #[] 89))
    | (at_builtin; refine wpList_append_sl rfl (.tmp 19) (.tmp 20) 91 rfl w.heap.size 89 i0 _ 4 Tryd.underlying91 hi hz0 hz1 hz2 rfl _ 0 [] rfl hown2 (some ⟨b1, o1, none⟩) 8 c1' (words s.list) rfl hl8.out hsl2 (words_one _) hm8 (by omega) hb2a.size ?_; intro v3 w3 hown3 hg3; have hb3 : Below w.heap.size w w3 := hb2a.grown hg3 hb2a.size (fun k hk => (hown2.lt k hk).1)))
  have hb23 : Below w2.heap.size w2 w3 := ((Below.refl _ w2).alloc (Nat.le_refl _) _).grown hg3 (by rw [World.size_alloc]; omega) (fun k hk => by have hk' : some w2.heap.size = some k := hk; injection hk' with hk'; omega)
  have hb13 := below_step hb2 hb23
  have hown1' := own_later hown1 hb13 (Nat.le_refl _)
  have hp3 := hp2.later hb23 hp2.lt
  have hg13 : g1 < w3.heap.size := Nat.lt_of_lt_of_le hgl1 hb13.size
  have hp3l := hp3.lt
  simp only [Nat.zero_add, List.nil_append] at hown3
  clear hown1 hb1 hb2 hb2' hown2 hsl2 hb2a hg3 hb23 hb13 hp2 hgl1
  go_loopw [7, 8] (fun v i wr => ∃ k : Nat, k ≤ 64 ∧ i = .int .i64 k ∧ wr.ownsRow w.heap.size 89 1 v 8 (words (roundsS ws s k).list) ∧ Below w3.heap.size w3 wr) (fun _ i _ => 64 - (intOf i).toNat)
  case atStart => exact ⟨0, by omega, rfl, hown3, Below.refl _ _⟩
  case round =>
    clear hown3
    obtain ⟨k, hk, rfl, hown, hb⟩ := hrel
    by_cases hlt : k < 64
    · obtain ⟨g', cap', rfl, _, hgl⟩ := hown.form (by omega)
      have HR := Lib.hid (show roundsS ws s (k + 1) = roundS (roundsS ws s k) (primeW k) (ws.getD k 0#32) from rfl)
      go_wp2_with fail
      have cw : wr.cell? ⟨g1, k, none⟩ = some (.int .u32 (u (ws.getD k 0#32))) := by rw [hb.cell (p := ⟨g1, k, none⟩) hg13]; exact own_cell hown1' k (by omega)
      have cp : wr.cell? ⟨w1.heap.size, k, none⟩ = some (.int .u32 (u (primeW k))) := by rw [u_primeW k hlt]; exact (hp3.later hb hp3l).cube k hlt
      generalize ws.getD k 0#32 = x at *
      generalize roundsS ws s k = st at *
      obtain ⟨a, b, c, d, e, f, g, h⟩ := st
      have n0 : (0 : Int) ≤ (k : Int) := by omega
      have m64 : (k : Int) < 64 := by omega
      have c0 : wr.cell? ⟨g', 0, none⟩ = some (.int .u32 (u a)) := own_cell hown 0 (by show 0 < 8; omega)
      have c1 : wr.cell? ⟨g', 1, none⟩ = some (.int .u32 (u b)) := own_cell hown 1 (by show 1 < 8; omega)
      have c2 : wr.cell? ⟨g', 2, none⟩ = some (.int .u32 (u c)) := own_cell hown 2 (by show 2 < 8; omega)
      have c3 : wr.cell? ⟨g', 3, none⟩ = some (.int .u32 (u d)) := own_cell hown 3 (by show 3 < 8; omega)
      have c4 : wr.cell? ⟨g', 4, none⟩ = some (.int .u32 (u e)) := own_cell hown 4 (by show 4 < 8; omega)
      have c5 : wr.cell? ⟨g', 5, none⟩ = some (.int .u32 (u f)) := own_cell hown 5 (by show 5 < 8; omega)
      have c6 : wr.cell? ⟨g', 6, none⟩ = some (.int .u32 (u g)) := own_cell hown 6 (by show 6 < 8; omega)
      have c7 : wr.cell? ⟨g', 7, none⟩ = some (.int .u32 (u h)) := own_cell hown 7 (by show 7 < 8; omega)
      refine wp_region_noPanic ?_
      refine wp_region_held_drew (S := fun w' => w' = wr.drew) (by kernel_rfl) (rfl) (fun hHeld => ?_)
      refine rt 0 26 rfl ?_ (hy := by intro w hS; subst hS; go_simp; try with_reducible rfl)
      refine rt 1 27 rfl ?_ (hy := by intro w hS; subst hS; go_simp; try with_reducible rfl)
      refine rt 2 28 rfl ?_ (hy := by intro w hS; subst hS; go_simp; try with_reducible rfl)
      refine rt 4 30 rfl ?_ (hy := by intro w hS; subst hS; go_simp; try with_reducible rfl)
      refine rt 5 31 rfl ?_ (hy := by intro w hS; subst hS; go_simp; try with_reducible rfl)
      refine rt 6 32 rfl ?_ (hy := by intro w hS; subst hS; go_simp; try with_reducible rfl)
      refine rt 9 35 rfl ?_ (hy := by intro w hS; subst hS; go_simp; try with_reducible rfl)
      refine rt 10 36 rfl ?_ (hy := by intro w hS; subst hS; go_simp; try with_reducible rfl)
      refine rt 11 37 rfl ?_ (hy := by intro w hS; subst hS; go_simp; try with_reducible rfl)
      refine rc1 3 fun K hK => ?_
      go_simp
      refine (rturn2_any _ 6 _ (by decide) (by decide)).mono ?_; rintro e' w' ⟨rfl, rfl⟩
      try go_wp2_with fail
      refine hK.out _ _ rfl (fun _ => ?_)
      clear hK K
      try (rw [put_some]; dsimp only [List.set])
      refine rc1 7 fun K hK => ?_
      go_simp
      refine (rturn2_any _ 11 _ (by decide) (by decide)).mono ?_; rintro e' w' ⟨rfl, rfl⟩
      try go_wp2_with fail
      refine hK.out _ _ rfl (fun _ => ?_)
      clear hK K
      try (rw [put_some]; dsimp only [List.set])
      refine rt 8 34 rfl ?_ (hy := by intro w hS; subst hS; go_simp; try with_reducible rfl)
      refine rc1 12 fun K hK => ?_
      go_simp
      refine (rturn2_any _ 25 _ (by decide) (by decide)).mono ?_; rintro e' w' ⟨rfl, rfl⟩
      try go_wp2_with fail
      refine hK.out _ _ rfl (fun _ => ?_)
      clear hK K
      try (rw [put_some]; dsimp only [List.set])
      refine rt 13 39 rfl ?_ (hy := by intro w hS; subst hS; go_simp; try with_reducible rfl)
      refine rt 14 9 rfl ?_ (hy := by intro w hS; subst hS; go_simp; try with_reducible rfl)
      refine wpAnyH_done (by kernel_rfl) ?_ _
      refine NoPanic.normal ?_
      rw [great_one]
      generalize hgr : great 1 e = tg
      go_wp2_with fail
      refine wp_region_noPanic ?_
      refine wp_region_held_drew (S := fun w' => w' = wr.drew.drew) (by kernel_rfl) (rfl) (fun hHeld => ?_)
      refine rt 0 40 rfl ?_ (hy := by intro w hS; subst hS; go_simp; try with_reducible rfl)
      refine rt 1 41 rfl ?_ (hy := by intro w hS; subst hS; go_simp; try with_reducible rfl)
      refine rt 2 42 rfl ?_ (hy := by intro w hS; subst hS; go_simp; try with_reducible rfl)
      refine rt 3 43 rfl ?_ (hy := by intro w hS; subst hS; go_simp; try with_reducible rfl)
      refine rt 4 44 rfl ?_ (hy := by intro w hS; subst hS; go_simp; try with_reducible rfl)
      refine rt 5 45 rfl ?_ (hy := by intro w hS; subst hS; go_simp; try with_reducible rfl)
      refine rt 6 46 rfl ?_ (hy := by intro w hS; subst hS; go_simp; try with_reducible rfl)
      refine rt 7 47 rfl ?_ (hy := by intro w hS; subst hS; go_simp; try with_reducible rfl)
      refine rt 8 48 rfl ?_ (hy := by intro w hS; subst hS; go_simp; try with_reducible rfl)
      refine rt 9 49 rfl ?_ (hy := by intro w hS; subst hS; go_simp; try with_reducible rfl)
      refine rt 10 50 rfl ?_ (hy := by intro w hS; subst hS; go_simp; try with_reducible rfl)
      refine rt 11 51 rfl ?_ (hy := by intro w hS; subst hS; go_simp; try with_reducible rfl)
      refine rt 12 52 rfl ?_ (hy := by intro w hS; subst hS; go_simp; try with_reducible rfl)
      refine rt 13 53 rfl ?_ (hy := by intro w hS; subst hS; go_simp; try with_reducible rfl)
      refine rt 14 54 rfl ?_ (hy := by intro w hS; subst hS; go_simp; try with_reducible rfl)
      refine rt 15 55 rfl ?_ (hy := by intro w hS; subst hS; go_simp; try with_reducible rfl)
      refine rt 16 10 rfl ?_ (hy := by intro w hS; subst hS; go_simp; try with_reducible rfl)
      refine wpAnyH_done (by kernel_rfl) ?_ _
      refine NoPanic.normal ?_
      generalize hch : e &&& f ||| ~~~e &&& g = tc
      go_wp2_with fail
      refine wp_region_noPanic ?_
      refine wp_region_held_drew (S := fun w' => w' = wr.drew.drew.drew) (by kernel_rfl) (rfl) (fun hHeld => ?_)
      refine rt 0 56 rfl ?_ (hy := by intro w hS; subst hS; go_simp; try with_reducible rfl)
      refine rt 1 57 rfl ?_ (hy := by intro w hS; subst hS; go_simp; try with_reducible rfl)
      refine rt 2 58 rfl ?_ (hy := by intro w hS; subst hS; go_simp; try with_reducible rfl)
      refine rt 3 59 rfl ?_ (hy := by intro w hS; subst hS; go_simp; try with_reducible rfl)
      refine rt 4 60 rfl ?_ (hy := by intro w hS; subst hS; go_simp; try with_reducible rfl)
      refine rt 5 61 rfl ?_ (hy := by intro w hS; subst hS; go_simp; try with_reducible rfl)
      refine rt 6 62 rfl ?_ (hy := by intro w hS; subst hS; go_simp; try with_reducible rfl)
      refine rt 7 63 rfl ?_ (hy := by intro w hS; subst hS; go_simp; try with_reducible rfl)
      refine rt 8 64 rfl ?_ (hy := by intro w hS; subst hS; go_simp; try with_reducible rfl)
      refine rt 9 65 rfl ?_ (hy := by intro w hS; subst hS; go_simp; try with_reducible rfl)
      refine rt 10 66 rfl ?_ (hy := by intro w hS; subst hS; go_simp; try with_reducible rfl)
      refine rt 11 67 rfl ?_ (hy := by intro w hS; subst hS; go_simp; try with_reducible rfl)
      refine rt 12 68 rfl ?_ (hy := by intro w hS; subst hS; go_simp; try with_reducible rfl)
      refine rt 13 69 rfl ?_ (hy := by intro w hS; subst hS; go_simp; try with_reducible rfl)
      refine rt 14 70 rfl ?_ (hy := by intro w hS; subst hS; go_simp; try with_reducible rfl)
      refine rt 15 71 rfl ?_ (hy := by intro w hS; subst hS; go_simp; try with_reducible rfl)
      refine rt 16 72 rfl ?_ (hy := by intro w hS; subst hS; go_simp; try with_reducible rfl)
      refine rt 17 11 rfl ?_ (hy := by intro w hS; subst hS; go_simp; try with_reducible rfl)
      refine wpAnyH_done (by kernel_rfl) ?_ _
      refine NoPanic.normal ?_
      generalize ht1 : h + tg + tc + primeW k + x = t1
      go_wp2_with fail
      refine wp_region_noPanic ?_
      refine wp_region_held_drew (S := fun w' => w' = wr.drew.drew.drew.drew) (by kernel_rfl) (rfl) (fun hHeld => ?_)
      refine rt 0 73 rfl ?_ (hy := by intro w hS; subst hS; go_simp; try with_reducible rfl)
      refine rt 1 74 rfl ?_ (hy := by intro w hS; subst hS; go_simp; try with_reducible rfl)
      refine rt 2 75 rfl ?_ (hy := by intro w hS; subst hS; go_simp; try with_reducible rfl)
      refine rt 4 77 rfl ?_ (hy := by intro w hS; subst hS; go_simp; try with_reducible rfl)
      refine rt 5 78 rfl ?_ (hy := by intro w hS; subst hS; go_simp; try with_reducible rfl)
      refine rt 6 79 rfl ?_ (hy := by intro w hS; subst hS; go_simp; try with_reducible rfl)
      refine rt 9 82 rfl ?_ (hy := by intro w hS; subst hS; go_simp; try with_reducible rfl)
      refine rt 10 83 rfl ?_ (hy := by intro w hS; subst hS; go_simp; try with_reducible rfl)
      refine rt 11 84 rfl ?_ (hy := by intro w hS; subst hS; go_simp; try with_reducible rfl)
      refine rc1 3 fun K hK => ?_
      go_simp
      refine (rturn2_any _ 2 _ (by decide) (by decide)).mono ?_; rintro e' w' ⟨rfl, rfl⟩
      try go_wp2_with fail
      refine hK.out _ _ rfl (fun _ => ?_)
      clear hK K
      try (rw [put_some]; dsimp only [List.set])
      refine rc1 7 fun K hK => ?_
      go_simp
      refine (rturn2_any _ 13 _ (by decide) (by decide)).mono ?_; rintro e' w' ⟨rfl, rfl⟩
      try go_wp2_with fail
      refine hK.out _ _ rfl (fun _ => ?_)
      clear hK K
      try (rw [put_some]; dsimp only [List.set])
      refine rt 8 81 rfl ?_ (hy := by intro w hS; subst hS; go_simp; try with_reducible rfl)
      refine rc1 12 fun K hK => ?_
      go_simp
      refine (rturn2_any _ 22 _ (by decide) (by decide)).mono ?_; rintro e' w' ⟨rfl, rfl⟩
      try go_wp2_with fail
      refine hK.out _ _ rfl (fun _ => ?_)
      clear hK K
      try (rw [put_some]; dsimp only [List.set])
      refine rt 13 86 rfl ?_ (hy := by intro w hS; subst hS; go_simp; try with_reducible rfl)
      refine rt 14 12 rfl ?_ (hy := by intro w hS; subst hS; go_simp; try with_reducible rfl)
      refine wpAnyH_done (by kernel_rfl) ?_ _
      refine NoPanic.normal ?_
      rw [great_nil]
      generalize hgr0 : great 0 a = tg0
      go_wp2_with fail
      refine wp_region_noPanic ?_
      refine wp_region_held_drew (S := fun w' => w' = wr.drew.drew.drew.drew.drew) (by kernel_rfl) (rfl) (fun hHeld => ?_)
      refine rt 0 87 rfl ?_ (hy := by intro w hS; subst hS; go_simp; try with_reducible rfl)
      refine rt 1 88 rfl ?_ (hy := by intro w hS; subst hS; go_simp; try with_reducible rfl)
      refine rt 2 89 rfl ?_ (hy := by intro w hS; subst hS; go_simp; try with_reducible rfl)
      refine rt 3 90 rfl ?_ (hy := by intro w hS; subst hS; go_simp; try with_reducible rfl)
      refine rt 4 91 rfl ?_ (hy := by intro w hS; subst hS; go_simp; try with_reducible rfl)
      refine rt 5 92 rfl ?_ (hy := by intro w hS; subst hS; go_simp; try with_reducible rfl)
      refine rt 6 93 rfl ?_ (hy := by intro w hS; subst hS; go_simp; try with_reducible rfl)
      refine rt 7 94 rfl ?_ (hy := by intro w hS; subst hS; go_simp; try with_reducible rfl)
      refine rt 8 95 rfl ?_ (hy := by intro w hS; subst hS; go_simp; try with_reducible rfl)
      refine rt 9 96 rfl ?_ (hy := by intro w hS; subst hS; go_simp; try with_reducible rfl)
      refine rt 10 97 rfl ?_ (hy := by intro w hS; subst hS; go_simp; try with_reducible rfl)
      refine rt 11 98 rfl ?_ (hy := by intro w hS; subst hS; go_simp; try with_reducible rfl)
      refine rt 12 99 rfl ?_ (hy := by intro w hS; subst hS; go_simp; try with_reducible rfl)
      refine rt 13 100 rfl ?_ (hy := by intro w hS; subst hS; go_simp; try with_reducible rfl)
      refine rt 14 101 rfl ?_ (hy := by intro w hS; subst hS; go_simp; try with_reducible rfl)
      refine rt 15 102 rfl ?_ (hy := by intro w hS; subst hS; go_simp; try with_reducible rfl)
      refine rt 16 103 rfl ?_ (hy := by intro w hS; subst hS; go_simp; try with_reducible rfl)
      refine rt 17 104 rfl ?_ (hy := by intro w hS; subst hS; go_simp; try with_reducible rfl)
      refine rt 18 105 rfl ?_ (hy := by intro w hS; subst hS; go_simp; try with_reducible rfl)
      refine rt 19 106 rfl ?_ (hy := by intro w hS; subst hS; go_simp; try with_reducible rfl)
      refine rt 20 107 rfl ?_ (hy := by intro w hS; subst hS; go_simp; try with_reducible rfl)
      refine rt 21 108 rfl ?_ (hy := by intro w hS; subst hS; go_simp; try with_reducible rfl)
      refine rt 22 109 rfl ?_ (hy := by intro w hS; subst hS; go_simp; try with_reducible rfl)
      refine rt 23 13 rfl ?_ (hy := by intro w hS; subst hS; go_simp; try with_reducible rfl)
      refine wpAnyH_done (by kernel_rfl) ?_ _
      refine NoPanic.normal ?_
      generalize hmo : a &&& b ||| a &&& c ||| b &&& c = tm
      go_wp2_with fail
      refine wp_region_noPanic ?_
      refine wp_region_held_drew (S := fun w' => w'.cell? ⟨g', 0, none⟩ = some (.int .u32 (u a)) ∧ w'.cell? ⟨g', 1, none⟩ = some (.int .u32 (u b)) ∧ w'.cell? ⟨g', 2, none⟩ = some (.int .u32 (u c)) ∧ w'.cell? ⟨g', 3, none⟩ = some (.int .u32 (u d)) ∧ w'.cell? ⟨g', 4, none⟩ = some (.int .u32 (u e)) ∧ w'.cell? ⟨g', 5, none⟩ = some (.int .u32 (u f)) ∧ w'.cell? ⟨g', 6, none⟩ = some (.int .u32 (u g))) (by kernel_rfl) (⟨c0, c1, c2, c3, c4, c5, c6⟩) (fun hHeld => ?_)
      refine rt 0 113 hHeld ?_ (hy := by intro w hS; obtain ⟨s0, s1, s2, s3, s4, s5, s6⟩ := hS; go_simp; try with_reducible rfl)
      refine rt 1 114 hHeld ?_ (hy := by intro w hS; obtain ⟨s0, s1, s2, s3, s4, s5, s6⟩ := hS; go_simp; try with_reducible rfl)
      refine rt 2 115 hHeld ?_ (hy := by intro w hS; obtain ⟨s0, s1, s2, s3, s4, s5, s6⟩ := hS; go_simp; try with_reducible rfl)
      refine rt 3 116 hHeld ?_ (hy := by intro w hS; obtain ⟨s0, s1, s2, s3, s4, s5, s6⟩ := hS; go_simp; try with_reducible rfl)
      refine rt 4 117 hHeld ?_ (hy := by intro w hS; obtain ⟨s0, s1, s2, s3, s4, s5, s6⟩ := hS; go_simp; try with_reducible rfl)
      refine rt 5 118 hHeld ?_ (hy := by intro w hS; obtain ⟨s0, s1, s2, s3, s4, s5, s6⟩ := hS; go_simp; try with_reducible rfl)
      refine rt 6 119 hHeld ?_ (hy := by intro w hS; obtain ⟨s0, s1, s2, s3, s4, s5, s6⟩ := hS; go_simp; try with_reducible rfl)
      refine rt 7 120 hHeld ?_ (hy := by intro w hS; obtain ⟨s0, s1, s2, s3, s4, s5, s6⟩ := hS; go_simp; try with_reducible rfl)
      refine rt 8 121 hHeld ?_ (hy := by intro w hS; obtain ⟨s0, s1, s2, s3, s4, s5, s6⟩ := hS; go_simp; try with_reducible rfl)
      refine rt 9 122 hHeld ?_ (hy := by intro w hS; obtain ⟨s0, s1, s2, s3, s4, s5, s6⟩ := hS; go_simp; try with_reducible rfl)
      refine rt 10 123 hHeld ?_ (hy := by intro w hS; obtain ⟨s0, s1, s2, s3, s4, s5, s6⟩ := hS; go_simp; try with_reducible rfl)
      refine rt 11 124 hHeld ?_ (hy := by intro w hS; obtain ⟨s0, s1, s2, s3, s4, s5, s6⟩ := hS; go_simp; try with_reducible rfl)
      refine rt 12 125 hHeld ?_ (hy := by intro w hS; obtain ⟨s0, s1, s2, s3, s4, s5, s6⟩ := hS; go_simp; try with_reducible rfl)
      refine rt 13 126 hHeld ?_ (hy := by intro w hS; obtain ⟨s0, s1, s2, s3, s4, s5, s6⟩ := hS; go_simp; try with_reducible rfl)
      refine rt 14 127 hHeld ?_ (hy := by intro w hS; obtain ⟨s0, s1, s2, s3, s4, s5, s6⟩ := hS; go_simp; try with_reducible rfl)
      refine rt 15 128 hHeld ?_ (hy := by intro w hS; obtain ⟨s0, s1, s2, s3, s4, s5, s6⟩ := hS; go_simp; try with_reducible rfl)
      refine rt 16 129 hHeld ?_ (hy := by intro w hS; obtain ⟨s0, s1, s2, s3, s4, s5, s6⟩ := hS; go_simp; try with_reducible rfl)
      refine rt 17 130 hHeld ?_ (hy := by intro w hS; obtain ⟨s0, s1, s2, s3, s4, s5, s6⟩ := hS; go_simp; try with_reducible rfl)
      refine rt 18 131 hHeld ?_ (hy := by intro w hS; obtain ⟨s0, s1, s2, s3, s4, s5, s6⟩ := hS; go_simp; try with_reducible rfl)
      refine rt 19 132 hHeld ?_ (hy := by intro w hS; obtain ⟨s0, s1, s2, s3, s4, s5, s6⟩ := hS; go_simp; try with_reducible rfl)
      refine rt 20 133 hHeld ?_ (hy := by intro w hS; obtain ⟨s0, s1, s2, s3, s4, s5, s6⟩ := hS; go_simp; try with_reducible rfl)
      refine rt 21 134 hHeld ?_ (hy := by intro w hS; obtain ⟨s0, s1, s2, s3, s4, s5, s6⟩ := hS; go_simp; try with_reducible rfl)
      refine rt 22 135 hHeld ?_ (hy := by intro w hS; obtain ⟨s0, s1, s2, s3, s4, s5, s6⟩ := hS; go_simp; try with_reducible rfl)
      refine rt 23 136 hHeld ?_ (hy := by intro w hS; obtain ⟨s0, s1, s2, s3, s4, s5, s6⟩ := hS; go_simp; try with_reducible rfl)
      refine rt 24 137 hHeld ?_ (hy := by intro w hS; obtain ⟨s0, s1, s2, s3, s4, s5, s6⟩ := hS; go_simp; try with_reducible rfl)
      refine rt 25 138 hHeld ?_ (hy := by intro w hS; obtain ⟨s0, s1, s2, s3, s4, s5, s6⟩ := hS; go_simp; try with_reducible rfl)
      refine rc1 26 fun K hK => ?_
      go_simp
      refine hK.out _ _ (by exact ⟨(World.cell?_alloc_lt _ _ _ hgl).trans c0, (World.cell?_alloc_lt _ _ _ hgl).trans c1, (World.cell?_alloc_lt _ _ _ hgl).trans c2, (World.cell?_alloc_lt _ _ _ hgl).trans c3, (World.cell?_alloc_lt _ _ _ hgl).trans c4, (World.cell?_alloc_lt _ _ _ hgl).trans c5, (World.cell?_alloc_lt _ _ _ hgl).trans c6⟩) (fun hHeld => ?_)
      clear hK K
      try (rw [put_some]; dsimp only [List.set])
      refine rt 27 7 hHeld ?_ (hy := by intro w hS; obtain ⟨s0, s1, s2, s3, s4, s5, s6⟩ := hS; go_simp; try with_reducible rfl)
      refine wpAnyH_done (by kernel_rfl) ?_ _
      refine NoPanic.normal ?_
      have hbs := hb.size
      have hbd := (hb.alloc hbs (.cells #[Value.int .u32 (u (t1 + (tg0 + tm))), Value.int .u32 (u a), Value.int .u32 (u b), Value.int .u32 (u c), Value.int .u32 (u (d + t1)), Value.int .u32 (u e), Value.int .u32 (u f), Value.int .u32 (u g)] 89)).drew.drew.drew.drew.drew.drew
      have hs3 := hb3.size
      clear c0 c1 c2 c3 c4 c5 c6 c7 cw cp n0 m64 hHeld hb hown hgl
      go_wp2_with fail
      go_roundw
      case rel =>
        refine ⟨k + 1, by omega, by go_num, ?_, hbd⟩
        rw [HR.out]
        have ho := World.ownsRow_lit (base := w.heap.size) (e := 89) (size := 1) wr #[Value.int .u32 (u (t1 + (tg0 + tm))), Value.int .u32 (u a), Value.int .u32 (u b), Value.int .u32 (u c), Value.int .u32 (u (d + t1)), Value.int .u32 (u e), Value.int .u32 (u f), Value.int .u32 (u g)] 8 (by omega) (by unfold maxLen; omega) rfl
        rw [← ht1, ← hgr, ← hch, ← hgr0, ← hmo] at ho ⊢
        exact ho
      case measure => simp [intOf]; omega
    · have e64 : k = 64 := by omega
      rw [e64] at hown
      generalize hst : roundsS ws s 64 = st at *
      have HST := Lib.hid hst
      clear hst e64 hown1' hp3 hg13 hp3l
      obtain ⟨g', cap', rfl, hgb, hgl⟩ := hown.form (by omega)
      go_wp2_with fail
      have hA8 : (addS st s).list.length = 8 := rfl
      have hB8 : st.list.length = 8 := rfl
      have hbw := hb3.trans (hb.mono hb3.size)
      have hb1w := sl_lt hs1 (by rw [← hl8.out]; omega)
      have hne : (⟨g', 0, none⟩ : Addr).block ≠ b1 := by show g' ≠ b1; omega
      rw [show words st.list = words (mixL (addS st s).list st.list 0) from rfl] at hown
      clear hb hb3 hgl
      go_loopw [142] (fun i wr => ∃ k : Nat, k ≤ 8 ∧ i = .int .i64 k ∧ wr.ownsRow w.heap.size 89 1 (.slice (some ⟨g', 0, none⟩) 8 cap') 8 (words (mixL (addS st s).list st.list k)) ∧ Below w.heap.size w wr) (fun i _ => 8 - (intOf i).toNat)
      case atStart => exact ⟨0, by omega, rfl, hown, hbw⟩
      case round =>
        clear hown hbw
        obtain ⟨i, hi8, rfl, hown, hb⟩ := hrel
        by_cases hlt8 : i < 8
        · go_wp2_with fail
          have c1 := own_cell hown i (by rw [length_mixL _ _ _ hA8 hB8]; exact hlt8)
          rw [mixL_get _ _ _ hA8 hB8 hlt8] at c1
          have c2 := sl_cell (hs1.later (Nat.le_refl _) hb.drew) i (by have h := hl8.out; rw [length_words] at h; omega)
          have hsum := addS_get st s i hlt8
          have hset := mixL_set (addS st s).list st.list i hA8 hB8 hlt8
          obtain ⟨ys, hrow⟩ := Row.of_own hown
          have hf := hrow.free i
          generalize st.list.getD i 0#32 = y at *
          generalize s.list.getD i 0#32 = z at *
          have n0 : (0 : Int) ≤ (i : Int) := by omega
          have n8 : (i : Int) < 8 := by omega
          clear hrow
          refine wp_region_noPanic ?_
          refine wp_region_held_drew (S := fun w' => w'.cell? ⟨b1, o1 + i, none⟩ = some (.int .u32 (u z))) (by kernel_rfl) (c2) (fun hHeld => ?_)
          refine rt 0 145 hHeld ?_
          refine rt 1 146 hHeld ?_
          refine rt 2 147 hHeld ?_
          refine rt 3 148 hHeld ?_
          refine rt 4 149 hHeld ?_
          refine rt 6 151 hHeld ?_
          refine rt 7 152 hHeld ?_
          refine rt 8 153 hHeld ?_
          refine rt 9 154 hHeld ?_
          refine rc1 5 fun K hK => ?_
          go_simp
          refine hK.out _ _ (hHeld) (fun hHeld => ?_)
          clear hK K
          try (rw [put_some]; dsimp only [List.set])
          refine rt 10 155 hHeld ?_
          refine rt 11 156 hHeld ?_
          refine rc1 12 fun K hK => ?_
          go_simp
          refine hK.out _ _ (by exact (World.cell?_setCell_far _ _ _ _ hne).trans c2) (fun _ => ?_)
          clear hK K
          try (rw [put_some]; dsimp only [List.set])
          refine wpAnyH_done (by kernel_rfl) ?_ _
          refine NoPanic.normal ?_
          have hos := (own_set hown i (.int .u32 (u (y + z)))).drew
          rw [← hsum, hset, hsum] at hos
          have hbs := (hb.setCell (p := ⟨g', i, none⟩) (by show w.heap.size ≤ g'; exact hgb) (.int .u32 (u (y + z)))).drew
          clear c1 c2 hf n0 n8 hset hown hb
          go_wp2_with fail
          go_roundw
          case rel => exact ⟨i + 1, by omega, by go_num, hos, hbs⟩
          case measure => simp [intOf]; omega
        · have e8 : i = 8 := by omega
          rw [e8] at hown
          have hz : mixL (addS st s).list st.list 8 = (addS st s).list := rfl
          have hcomp : compS l s = addS (roundsS ws s 64) s := by unfold compS; rw [HWS.out]
          rw [HST.out] at hcomp
          rw [hz, ← hcomp] at hown
          have hl9 : (compS l s).list.length = 8 := rfl
          generalize (compS l s).list = cs at *
          go_wp2
          go_ret
          exact ⟨_, rfl, by rw [hl9]; exact hown, hb⟩
end Go.Proofs.YtnkkgclmmaakgaaDoor

/- LAYER 3: the document's SHA-256. -/
namespace Go.Proofs.YtnkkgclmmaakgaaDoor
set_option maxRecDepth 100000
open Go Go.RowKit

theorem rstart3_any (w : World) :
    Calls Tryd.prog 57 #[] w (GaveWords S0.list w) := by
  go_enter Tryd.func57, Tryd.ntmps57
  go_wp2
  go_ret
  exact ⟨_, rfl, World.ownsRow_lit w #[_, _, _, _, _, _, _, _] 8 (Nat.le_refl _) (by unfold maxLen; omega) rfl, (Below.refl _ _).alloc (Nat.le_refl _) _⟩
set_option maxRecDepth 100000 in
set_option maxHeartbeats 1000000 in
theorem rof_any (A : Option Addr) (n c : Nat) (l : List UInt8) (w : World) (hs : Sl w A c (byts l)) (hn : n = l.length) (hm : l.length ≤ 35184372088832) :
    Calls Tryd.prog 42 #[.slice A n c] w (GaveBytes (shaL l) w) := by
  subst hn
  obtain ⟨i0, hi, hz0, hz1, hz2⟩ := info_parts infoByte
  have hm0 : 0 + l.length ≤ maxLen := by unfold maxLen; omega
  have hmb : (0 + l.length) * 1 ≤ 140737488355328 := by omega
  have hpl := length_padL l.length
  have hpn := noughts_lt l.length
  have hm1 : 0 + l.length + (padL l.length).length ≤ maxLen := by unfold maxLen; omega
  have hmc : (0 + l.length + (padL l.length).length) * 1 ≤ 140737488355328 := by omega
  have hpm := padded_mod l
  have hwl : IntKind.u64.wrap (l.length : Int) = (l.length : Int) := by rw [IntKind.wrap_u64]; omega
  have hown0 : (w.alloc (.cells #[] 5)).ownsRow w.heap.size 5 1 (.slice (some ⟨w.heap.size, 0, none⟩) 0 0) 0 [] := World.ownsRow_lit w #[] 0 (Nat.le_refl _) (by unfold maxLen; omega) rfl
  have hb0 : Below w.heap.size w (w.alloc (.cells #[] 5)) := (Below.refl _ _).alloc (Nat.le_refl _) _
  obtain ⟨M, hM⟩ : ∃ M, M = l ++ padL l.length := ⟨_, rfl⟩
  have hMl : M.length = l.length + (padL l.length).length := by rw [hM, List.length_append]
  have HM := Lib.hid hM
  have HML := Lib.hid hMl
  have HPM := Lib.hid hpm
  have HPL := Lib.hid hpl
  clear hM hMl hpm hpl
  go_enter Tryd.func42, Tryd.ntmps42
  go_wp2_with (first
    | (at_builtin; refine wpList_append_sl rfl (.tmp 9) (.tmp 10) 53 rfl w.heap.size 5 i0 _ 1 Tryd.underlying53 hi hz0 hz1 hz2 rfl _ 0 [] rfl hown0 A l.length c (byts l) rfl (length_byts l).symm (hs.later (Nat.le_refl _) hb0) (byts_one l) hm0 hmb hb0.size ?_; intro v1 w1 hown1 hg1; have hb1 : Below w.heap.size w w1 := hb0.grown hg1 hb0.size (fun k hk => (hown0.lt k hk).1))
    | (go_at_call 56; refine (rpad_any l.length _).mono ?_; rintro e w2 ⟨v2, rfl, hown2, hb2⟩; obtain ⟨A2, c2, rfl, hl2, hsl2⟩ := Sl.of_own hown2; have hown1' := own_later hown1 hb2 (Nat.le_refl _); have hbB := hb1.trans (hb2.mono hb1.size))
    | (at_builtin; refine wpList_append_sl rfl (.tmp 11) (.tmp 15) 53 rfl w.heap.size 5 i0 _ 1 Tryd.underlying53 hi hz0 hz1 hz2 rfl _ (0 + l.length) ([] ++ byts l) rfl hown1' A2 (padL l.length).length c2 (byts (padL l.length)) rfl (length_byts _).symm hsl2 (byts_one _) hm1 hmc hbB.size ?_; intro v3 w3 hown3 hg3; have hb3 : Below w.heap.size w w3 := hbB.grown hg3 hbB.size (fun k hk => (hown1'.lt k hk).1))
    | (go_at_call 57; refine (rstart3_any _).mono ?_; rintro e w4 ⟨v4, rfl, hown4, hb4⟩))
  have hM0 : 0 < M.length := by rw [HML.out, HPL.out]; omega
  have hM64 : M.length % 64 = 0 := by rw [HML.out]; exact HPM.out
  have e0 : 0 + l.length + (padL l.length).length = M.length := by rw [HML.out]; omega
  have eM : [] ++ byts l ++ byts (padL l.length) = byts M := by rw [HM.out, byts_append, List.nil_append]
  rw [e0, eM] at hown3
  have hl8 : S0.list.length = 8 := rfl
  rw [hl8] at hown4
  obtain ⟨g3, cap3, rfl, _, hgl3⟩ := hown3.form hM0
  obtain ⟨A3, c3, he3, _, hsl3⟩ := Sl.of_own hown3
  cases he3
  have hsl4 := hsl3.later (Nat.le_refl _) hb4
  have hb4' := hb3.trans (hb4.mono hb3.size)
  have hroom := hsl4.room
  rw [length_byts] at hroom
  have hMm : M.length ≤ 140737488355328 := by rw [HML.out]; omega
  clear hown0 hb0 hown1 hg1 hb1 hb2 hown2 hl2 hsl2 hown1' hbB hg3 hown3 hsl3 e0 eM hl8 hwl
  go_loopw [4, 5] (fun v i wr => ∃ k : Nat, 64 * k ≤ M.length ∧ i = .int .i64 ((64 * k : Nat) : Int) ∧ wr.ownsRow w3.heap.size 89 1 v 8 (words (stK M k).list) ∧ Below w4.heap.size w4 wr) (fun _ i _ => M.length - (intOf i).toNat)
  case atStart => exact ⟨0, by omega, rfl, hown4, Below.refl _ _⟩
  case round =>
    clear hown4
    obtain ⟨k, hk, rfl, hown, hb⟩ := hrel
    by_cases hlt : 64 * k < M.length
    · have hk1 : 64 * k + 64 ≤ M.length := by omega
      obtain ⟨g5, cap5, rfl, hg5, hgl5⟩ := hown.form (by omega)
      obtain ⟨A5, c5, he5, _, hsl5⟩ := Sl.of_own hown
      cases he5
      have hsl6 := hsl4.later (Nat.le_refl _) hb
      have hsl7 := hsl6.cut (k := 64 * k) (by rw [length_byts]; omega)
      rw [blkAt_cut, Nat.zero_add] at hsl7
      have hsl8 := hsl7.pre
      have hbl := Lib.hid (length_blkAt M k (by omega))
      have HST := Lib.hid (show stK M (k + 1) = compS (blkAt M k) (stK M k) from rfl)
      generalize blkAt M k = B at *
      generalize stK M k = st at *
      obtain ⟨p, hp⟩ : ∃ p, p = 64 * k := ⟨_, rfl⟩
      rw [← hp] at hlt hk1 hsl8 ⊢
      have hI0 : IntKind.i64.wrap ((p : Int) + 64) = (p : Int) + 64 := by rw [IntKind.wrap_i64]; omega
      have hI1 : (p : Int) + 64 ≤ (cap3 : Int) := by omega
      have hI2 : ¬ (cap3 = p) := by omega
      have hI3 : (p : Int) < (M.length : Int) := by omega
      have HPk := Lib.hid hp
      clear hp hsl6 hsl7 hk
      have hI4 : p + 64 - p = 64 := by omega
      have hle : w3.heap.size ≤ wr.heap.size := Nat.le_trans hb4.size hb.size
      go_wp2_with (go_at_call 58; refine (rcompress_any g5 0 cap5 g3 p (cap3 - p) st B hbl.out _ hsl5 hsl8).mono ?_; rintro e w6 ⟨v6, rfl, hown6, hb6⟩)
      have hown6' : w6.ownsRow w3.heap.size 89 1 v6 8 (words (compS B st).list) := own_mono hown6 hle
      have hb6' := below_step hb hb6
      clear hI0 hI1 hI2 hI4 hsl8 hsl5 hown6 hb6 hown hb
      go_roundw
      case rel =>
        refine ⟨k + 1, by have := HPk.out; omega, ?_, by rw [HST.out]; exact hown6', hb6'⟩
        rw [show 64 * (k + 1) = p + 64 by rw [HPk.out]; omega]
        go_num
      case measure => simp [intOf]; omega
    · have ek : k = M.length / 64 := by omega
      have hst : (stK M k).list = (shaS l).list := by rw [ek, HML.out, HM.out]; rfl
      rw [hst] at hown
      have hge : ¬ (((64 * k : Nat) : Int) < (M.length : Int)) := by omega
      obtain ⟨p, hp⟩ : ∃ p, p = 64 * k := ⟨_, rfl⟩
      rw [← hp] at hge ⊢
      obtain ⟨ws, hws⟩ : ∃ ws, ws = (shaS l).list := ⟨_, rfl⟩
      have hwsl : ws.length = 8 := by rw [hws]; rfl
      rw [← hws] at hown
      have HWS := Lib.hid hws
      have HWL := Lib.hid hwsl
      obtain ⟨g5, cap5, rfl, hg5, hgl5⟩ := hown.form (by omega)
      have hb5 := hb4'.trans (hb.mono hb4'.size)
      clear hb
      obtain ⟨wo, rfl⟩ : ∃ wo : World, wo = wr := ⟨_, rfl⟩
      have hownB : (wo.alloc (.cells #[] 5)).ownsRow wo.heap.size 5 1 (.slice (some ⟨wo.heap.size, 0, none⟩) 0 0) 0 (byts (wordsB (ws.take 0))) := World.ownsRow_lit wo #[] 0 (Nat.le_refl _) (by unfold maxLen; omega) rfl
      have hbC : Below wo.heap.size wo (wo.alloc (.cells #[] 5)) := (Below.refl _ wo).alloc (Nat.le_refl _) (.cells #[] 5)
      clear hst hp hws hwsl ek
      go_wp2_with fail
      go_loopw [6, 34] (fun v i wq => ∃ j : Nat, j ≤ 8 ∧ i = .int .i64 j ∧ wq.ownsRow wo.heap.size 5 1 v (4 * j) (byts (wordsB (ws.take j))) ∧ Below wo.heap.size wo wq) (fun _ i _ => 8 - (intOf i).toNat)
      case atStart => exact ⟨0, by omega, rfl, hownB, hbC⟩
      case round =>
        clear hownB hbC
        obtain ⟨j, hj, rfl, howno, hb⟩ := hrel
        by_cases hlt8 : j < 8
        · have cj := own_cell (own_later hown hb (Nat.le_refl _)) j (by rw [HWL.out]; exact hlt8)
          have HS := Lib.hid (wordsB_succ ws j (by rw [HWL.out]; exact hlt8))
          generalize ws.getD j 0#32 = x at *
          have n1 : 4 * j + 4 ≤ maxLen := by unfold maxLen; omega
          have n2 : (4 * j + 4) * 1 ≤ 140737488355328 := by omega
          go_wp2_with (first
            | (go_at_call 59; refine (rbytes_any x _).mono ?_; rintro e w7 ⟨v7, rfl, hown7, hb7⟩; obtain ⟨A7, c7, rfl, _, hsl9⟩ := Sl.of_own hown7; have howno' := own_later howno hb7 (Nat.le_refl _); have hbD := below_step hb hb7)
            | (at_builtin; refine wpList_append_sl rfl (.tmp 38) (.tmp 40) 53 rfl wo.heap.size 5 i0 _ 1 Tryd.underlying53 hi hz0 hz1 hz2 rfl _ (4 * j) (byts (wordsB (ws.take j))) rfl howno' A7 (bytesL x).length c7 (byts (bytesL x)) rfl (length_byts _).symm hsl9 (byts_one _) n1 n2 hbD.size ?_; intro v8 w8 hown8 hg8; have hb8 : Below wo.heap.size wo w8 := hbD.grown hg8 hbD.size (fun k hk => (howno'.lt k hk).1)))
          clear hg8 howno' hbD hown7 hb7 hsl9 howno hb cj
          rw [← byts_append, ← HS.out] at hown8
          go_roundw
          case rel => exact ⟨j + 1, by omega, by go_num, hown8, hb8⟩
          case measure => simp [intOf]; omega
        · have e8 : j = 8 := by omega
          rw [e8, List.take_of_length_le (by rw [HWL.out]; exact Nat.le_refl _), HWS.out] at howno
          go_wp2
          go_ret
          exact ⟨_, rfl, own_mono howno hb5.size, hb5.trans (hb.mono hb5.size)⟩
end Go.Proofs.YtnkkgclmmaakgaaDoor

/- LAYER 4: the document's HMAC. -/
namespace Go.Proofs.YtnkkgclmmaakgaaDoor
set_option maxRecDepth 100000
open Go Go.RowKit

theorem xor_take (x : UInt8) (k : List UInt8) (j : Nat) (h : j < k.length) : xorL x (k.take (j + 1)) = xorL x (k.take j) ++ [k.getD j 0 ^^^ x] := by
  have e : k.take (j + 1) = k.take j ++ [k[j]] := by rw [List.take_add_one]; simp [h]
  have g : k.getD j 0 = k[j] := by simp [h]
  rw [e, g]
  unfold xorL
  rw [List.map_append]
  rfl
theorem key_in {s k : List UInt8} {j : Nat} (hs : s = shortL k) (h : j < s.length) : (keyL k).getD j 0 = s.getD j 0 := by
  unfold keyL
  rw [← hs, List.getD_eq_getElem?_getD, List.getElem?_append_left h, List.getD_eq_getElem?_getD]
theorem key_out {s k : List UInt8} {j : Nat} (hs : s = shortL k) (h : s.length ≤ j) : (keyL k).getD j 0 = 0 := by
  unfold keyL
  rw [← hs, List.getD_eq_getElem?_getD, List.getElem?_append_right h, List.getElem?_replicate]
  split <;> rfl
set_option maxRecDepth 100000 in
set_option maxHeartbeats 1000000 in
theorem rturned_any (A : Option Addr) (n c : Nat) (k : List UInt8) (x : UInt8) (w : World) (hs : Sl w A c (byts k)) (hn : n = k.length) (hm : k.length ≤ 35184372088832) :
    Calls Tryd.prog 43 #[.slice A n c, .int .u8 (x.toNat : Int)] w (GaveBytes (xorL x (keyL k)) w) := by
  subst hn
  obtain ⟨i0, hi, hz0, hz1, hz2⟩ := info_parts infoByte
  have HKL := Lib.hid (length_keyL k)
  by_cases h64 : k.length ≤ 64
  · have HS := Lib.hid (show k = shortL k by unfold shortL; rw [if_pos h64])
    have hb1 := Below.refl w.heap.size w
    go_enter Tryd.func43, Tryd.ntmps43
    go_wp2
    have hown0 : (w.alloc (.cells #[] 5)).ownsRow w.heap.size 5 1 (.slice (some ⟨w.heap.size, 0, none⟩) 0 0) 0 [] := World.ownsRow_lit w #[] 0 (Nat.le_refl _) (by unfold maxLen; omega) rfl
    have hb0 := (Below.refl w.heap.size w).alloc (Nat.le_refl _) (.cells #[] 5)
    go_loopw [5, 6] (fun v i wr => ∃ j : Nat, j ≤ 64 ∧ i = .int .i64 j ∧ wr.ownsRow w.heap.size 5 1 v j (byts (xorL x ((keyL k).take j))) ∧ Below w.heap.size w wr) (fun _ i _ => 64 - (intOf i).toNat)
    case atStart => exact ⟨0, by omega, rfl, hown0, hb0⟩
    case round =>
      clear hown0 hb0
      obtain ⟨j, hj, rfl, hown, hb⟩ := hrel
      by_cases hlt : j < 64
      · have hd1 : j + 1 ≤ maxLen := by unfold maxLen; omega
        have hd2 : (j + 1) * 1 ≤ 140737488355328 := by omega
        have HX := Lib.hid (xor_take x (keyL k) j (by rw [HKL.out]; exact hlt))
        by_cases hin : j < k.length
        · obtain ⟨b, o, hA, _, hcj⟩ := (hs.later (Nat.le_refl _) hb).rd.get (i := j) (by rw [length_byts]; exact hin)
          have hix := index_bytes A b o k.length c j hA hin
          rw [get_byts _ _ hin] at hcj
          have HY := Lib.hid (key_in HS.out hin)
          generalize k.getD j 0 = y at *
          have hby := Lib.hid (show byts [y ^^^ x] = [Value.int .u8 (bits .xor .u8 (y.toNat : Int) (x.toNat : Int))] by rw [byte_xor]; rfl)
          have HA := Lib.hid hA
          clear hA
          go_wp2_with (at_builtin; go_loud (refine wpList_append_own _ rfl (.tmp 26) (.tmp 30) 53 rfl w.heap.size 5 i0 _ 1 1 Tryd.underlying53 hi hz0 hz1 hz2 rfl (by omega) _ j (byts (xorL x ((keyL k).take j))) rfl (hown.alloc _) ⟨wr.heap.size, 0, none⟩ 1 1 (byts [y ^^^ x]) rfl (length_byts _) (by rw [hby.out]; exact cells_new _ _ _) (byts_one _) hd1 hd2 (by rw [World.size_alloc]; have := hb.size; omega) ?_; intro v3 w3 hown3 hg3 _; have hb3 : Below w.heap.size w w3 := (hb.alloc hb.size _).grown hg3 (by rw [World.size_alloc]; have := hb.size; omega) (fun k hk => (hown.lt k hk).1)))
          rw [← byts_append, ← HY.out, ← HX.out] at hown3
          clear hb hown hg3
          go_roundw
          case rel => exact ⟨j + 1, by omega, by go_num, hown3, hb3⟩
          case measure => simp [intOf]; omega
        · have HY := Lib.hid (key_out HS.out (Nat.le_of_not_lt hin))
          have hby := Lib.hid (show byts [0 ^^^ x] = [Value.int .u8 (bits .xor .u8 0 (x.toNat : Int))] by rw [show (0 : Int) = ((0 : UInt8).toNat : Int) from rfl, byte_xor]; rfl)
          go_wp2_with (at_builtin; go_loud (refine wpList_append_own _ rfl (.tmp 26) (.tmp 30) 53 rfl w.heap.size 5 i0 _ 1 1 Tryd.underlying53 hi hz0 hz1 hz2 rfl (by omega) _ j (byts (xorL x ((keyL k).take j))) rfl (hown.alloc _) ⟨wr.heap.size, 0, none⟩ 1 1 (byts [0 ^^^ x]) rfl (length_byts _) (by rw [hby.out]; exact cells_new _ _ _) (byts_one _) hd1 hd2 (by rw [World.size_alloc]; have := hb.size; omega) ?_; intro v3 w3 hown3 hg3 _; have hb3 : Below w.heap.size w w3 := (hb.alloc hb.size _).grown hg3 (by rw [World.size_alloc]; have := hb.size; omega) (fun k hk => (hown.lt k hk).1)))
          rw [← byts_append, ← HY.out, ← HX.out] at hown3
          clear hb hown hg3
          go_roundw
          case rel => exact ⟨j + 1, by omega, by go_num, hown3, hb3⟩
          case measure => simp [intOf]; omega
      · have e64 : j = 64 := by omega
        rw [e64, List.take_of_length_le (by rw [HKL.out]; exact Nat.le_refl _)] at hown
        go_wp2
        go_ret
        refine ⟨_, rfl, ?_, hb1.trans (hb.mono hb1.size)⟩
        rw [length_xorL, HKL.out]
        exact own_mono hown hb1.size
  · have hr := Lib.hid (rof_any A k.length c k w hs rfl hm)
    obtain ⟨s, hsq⟩ : ∃ s, s = shaL k := ⟨_, rfl⟩
    have HS := Lib.hid (show s = shortL k by unfold shortL; rw [if_neg h64, hsq])
    have hsl64 := Lib.hid (show s.length = 32 by rw [hsq]; exact length_shaL k)
    rw [← hsq] at hr
    clear hsq
    go_enter Tryd.func43, Tryd.ntmps43
    go_wp2_with (go_at_call 42; refine hr.out.mono ?_; rintro e w1 ⟨v1, rfl, hown1, hb1⟩; obtain ⟨A1, c1, rfl, _, hsl1⟩ := Sl.of_own hown1; clear hown1)
    have hown0 : (w1.alloc (.cells #[] 5)).ownsRow w1.heap.size 5 1 (.slice (some ⟨w1.heap.size, 0, none⟩) 0 0) 0 [] := World.ownsRow_lit w1 #[] 0 (Nat.le_refl _) (by unfold maxLen; omega) rfl
    have hb0 := (Below.refl w1.heap.size w1).alloc (Nat.le_refl _) (.cells #[] 5)
    go_loopw [5, 6] (fun v i wr => ∃ j : Nat, j ≤ 64 ∧ i = .int .i64 j ∧ wr.ownsRow w1.heap.size 5 1 v j (byts (xorL x ((keyL k).take j))) ∧ Below w1.heap.size w1 wr) (fun _ i _ => 64 - (intOf i).toNat)
    case atStart => exact ⟨0, by omega, rfl, hown0, hb0⟩
    case round =>
      clear hown0 hb0
      obtain ⟨j, hj, rfl, hown, hb⟩ := hrel
      by_cases hlt : j < 64
      · have hd1 : j + 1 ≤ maxLen := by unfold maxLen; omega
        have hd2 : (j + 1) * 1 ≤ 140737488355328 := by omega
        have HX := Lib.hid (xor_take x (keyL k) j (by rw [HKL.out]; exact hlt))
        by_cases hin : j < s.length
        · obtain ⟨b, o, hA, _, hcj⟩ := (hsl1.later (Nat.le_refl _) hb).rd.get (i := j) (by rw [length_byts]; exact hin)
          have hix := index_bytes A1 b o s.length c1 j hA hin
          rw [get_byts _ _ hin] at hcj
          have HY := Lib.hid (key_in HS.out hin)
          generalize s.getD j 0 = y at *
          have hby := Lib.hid (show byts [y ^^^ x] = [Value.int .u8 (bits .xor .u8 (y.toNat : Int) (x.toNat : Int))] by rw [byte_xor]; rfl)
          have HA := Lib.hid hA
          clear hA
          go_wp2_with (at_builtin; go_loud (refine wpList_append_own _ rfl (.tmp 26) (.tmp 30) 53 rfl w1.heap.size 5 i0 _ 1 1 Tryd.underlying53 hi hz0 hz1 hz2 rfl (by omega) _ j (byts (xorL x ((keyL k).take j))) rfl (hown.alloc _) ⟨wr.heap.size, 0, none⟩ 1 1 (byts [y ^^^ x]) rfl (length_byts _) (by rw [hby.out]; exact cells_new _ _ _) (byts_one _) hd1 hd2 (by rw [World.size_alloc]; have := hb.size; omega) ?_; intro v3 w3 hown3 hg3 _; have hb3 : Below w1.heap.size w1 w3 := (hb.alloc hb.size _).grown hg3 (by rw [World.size_alloc]; have := hb.size; omega) (fun k hk => (hown.lt k hk).1)))
          rw [← byts_append, ← HY.out, ← HX.out] at hown3
          clear hb hown hg3
          go_roundw
          case rel => exact ⟨j + 1, by omega, by go_num, hown3, hb3⟩
          case measure => simp [intOf]; omega
        · have HY := Lib.hid (key_out HS.out (Nat.le_of_not_lt hin))
          have hby := Lib.hid (show byts [0 ^^^ x] = [Value.int .u8 (bits .xor .u8 0 (x.toNat : Int))] by rw [show (0 : Int) = ((0 : UInt8).toNat : Int) from rfl, byte_xor]; rfl)
          go_wp2_with (at_builtin; go_loud (refine wpList_append_own _ rfl (.tmp 26) (.tmp 30) 53 rfl w1.heap.size 5 i0 _ 1 1 Tryd.underlying53 hi hz0 hz1 hz2 rfl (by omega) _ j (byts (xorL x ((keyL k).take j))) rfl (hown.alloc _) ⟨wr.heap.size, 0, none⟩ 1 1 (byts [0 ^^^ x]) rfl (length_byts _) (by rw [hby.out]; exact cells_new _ _ _) (byts_one _) hd1 hd2 (by rw [World.size_alloc]; have := hb.size; omega) ?_; intro v3 w3 hown3 hg3 _; have hb3 : Below w1.heap.size w1 w3 := (hb.alloc hb.size _).grown hg3 (by rw [World.size_alloc]; have := hb.size; omega) (fun k hk => (hown.lt k hk).1)))
          rw [← byts_append, ← HY.out, ← HX.out] at hown3
          clear hb hown hg3
          go_roundw
          case rel => exact ⟨j + 1, by omega, by go_num, hown3, hb3⟩
          case measure => simp [intOf]; omega
      · have e64 : j = 64 := by omega
        rw [e64, List.take_of_length_le (by rw [HKL.out]; exact Nat.le_refl _)] at hown
        go_wp2
        go_ret
        refine ⟨_, rfl, ?_, hb1.trans (hb.mono hb1.size)⟩
        rw [length_xorL, HKL.out]
        exact own_mono hown hb1.size
set_option maxRecDepth 100000 in
set_option maxHeartbeats 1000000 in
theorem rmac_any (A : Option Addr) (n c : Nat) (k : List UInt8) (B : Option Addr) (m d : Nat) (l : List UInt8) (w : World) (hs : Sl w A c (byts k)) (hn : n = k.length) (hk : k.length ≤ 35184372088832) (hp : Sl w B d (byts l)) (hmn : m = l.length) (hm : 64 + l.length ≤ 35184372088832) :
    Calls Tryd.prog 30 #[.slice A n c, .slice B m d] w (GaveBytes (macL k l) w) := by
  subst hmn
  obtain ⟨i0, hi, hz0, hz1, hz2⟩ := info_parts infoByte
  obtain ⟨XI, hXI⟩ : ∃ XI, XI = xorL 54 (keyL k) := ⟨_, rfl⟩
  obtain ⟨XO, hXO⟩ : ∃ XO, XO = xorL 92 (keyL k) := ⟨_, rfl⟩
  have hXIl : XI.length = 64 := by rw [hXI, length_xorL, length_keyL]
  have hXOl : XO.length = 64 := by rw [hXO, length_xorL, length_keyL]
  have ht1 := Lib.hid (show Calls Tryd.prog 43 #[.slice A n c, .int .u8 54] w (GaveBytes XI w) by rw [hXI]; exact rturned_any A n c k 54 w hs hn hk)
  have ht2 := Lib.hid (show ∀ w1, Below w.heap.size w w1 → Calls Tryd.prog 43 #[.slice A n c, .int .u8 92] w1 (GaveBytes XO w1) by rw [hXO]; exact fun w1 hb => rturned_any A n c k 92 w1 (hs.later (Nat.le_refl _) hb) hn hk)
  have HM := Lib.hid (show macL k l = shaL (XO ++ shaL (XI ++ l)) by unfold macL; rw [hXI, hXO])
  have m1 : XI.length + l.length ≤ maxLen := by unfold maxLen; omega
  have m2 : (XI.length + l.length) * 1 ≤ 140737488355328 := by omega
  have m3 : XO.length + (shaL (XI ++ l)).length ≤ maxLen := by rw [length_shaL]; unfold maxLen; omega
  have m4 : (XO.length + (shaL (XI ++ l)).length) * 1 ≤ 140737488355328 := by rw [length_shaL]; omega
  have m5 : (XI ++ l).length ≤ 35184372088832 := by rw [List.length_append]; omega
  have m6 : (XO ++ shaL (XI ++ l)).length ≤ 35184372088832 := by rw [List.length_append, length_shaL]; omega
  have tok1 : True := trivial
  have tok2 : True := trivial
  have tok3 : True := trivial
  have tok4 : True := trivial
  have tok5 : True := trivial
  have tok6 : True := trivial
  have HL1 := Lib.hid (show XI.length + l.length = (XI ++ l).length by rw [List.length_append])
  have HL2 := Lib.hid (show XO.length + (shaL (XI ++ l)).length = (XO ++ shaL (XI ++ l)).length by rw [List.length_append])
  clear hXI hXO hXIl hXOl hs hn hk hm
  generalize hD : XI ++ l = D at *
  generalize hS : shaL D = S at *
  go_enter Tryd.func30, Tryd.ntmps30
  go_wp2_with (first
    | (go_at_call 43; have _t := tok1; refine ht1.out.mono ?_; rintro e w1 ⟨v1, rfl, hown1, hb1⟩; have hp1 := hp.later (Nat.le_refl _) hb1; clear tok1)
    | (at_builtin; have _t := tok5; clear tok5; refine wpList_append_sl rfl (.tmp 7) (.tmp 8) 53 rfl w.heap.size 5 i0 _ 1 Tryd.underlying53 hi hz0 hz1 hz2 rfl _ XI.length (byts XI) rfl hown1 B l.length d (byts l) rfl (length_byts _).symm hp1 (byts_one _) m1 m2 hb1.size ?_; intro v2 w2 hown2 hg2; have hb2 : Below w.heap.size w w2 := hb1.grown hg2 hb1.size (fun k hk => (hown1.lt k hk).1); rw [← byts_append, hD, HL1.out] at hown2; obtain ⟨A2, c2, rfl, _, hsl2⟩ := Sl.of_own hown2)
    | (go_at_call 42; have _t := tok2; refine (rof_any A2 D.length c2 D _ hsl2 rfl m5).mono ?_; rw [hS]; rintro e w3 ⟨v3, rfl, hown3, hb3⟩; obtain ⟨A3, c3, rfl, _, hsl3⟩ := Sl.of_own hown3; have hbB := hb2.trans (hb3.mono hb2.size); clear tok2)
    | (go_at_call 43; have _t := tok3; refine (ht2.out _ hbB).mono ?_; rintro e w4 ⟨v4, rfl, hown4, hb4⟩; have hsl4 := hsl3.later (Nat.le_refl _) hb4; clear tok3)
    | (at_builtin; have _t := tok6; clear tok6; refine wpList_append_sl rfl (.tmp 12) (.tmp 13) 53 rfl w3.heap.size 5 i0 _ 1 Tryd.underlying53 hi hz0 hz1 hz2 rfl _ XO.length (byts XO) rfl hown4 A3 S.length c3 (byts S) rfl (length_byts _).symm hsl4 (byts_one _) m3 m4 hb4.size ?_; intro v5 w5 hown5 hg5; have hb5 : Below w3.heap.size w3 w5 := hb4.grown hg5 hb4.size (fun k hk => (hown4.lt k hk).1); rw [← byts_append, HL2.out] at hown5; obtain ⟨A5, c5, rfl, _, hsl5⟩ := Sl.of_own hown5)
    | (go_at_call 42; have _t := tok4; refine (rof_any A5 _ c5 (XO ++ S) _ hsl5 HL2.out m6).mono ?_; rintro e w6 ⟨v6, rfl, hown6, hb6⟩; have hbC := hbB.trans ((below_step hb5 hb6).mono hbB.size); clear tok4))

  go_ret
  rw [HM.out]
  exact ⟨v6, rfl, own_mono hown6 (Nat.le_trans hbB.size hb5.size), hbC⟩
end Go.Proofs.YtnkkgclmmaakgaaDoor

/- LAYER 6: the document's frame and key. -/
namespace Go.Proofs.YtnkkgclmmaakgaaDoor
set_option maxRecDepth 100000
open Go Go.RowKit

set_option maxRecDepth 100000 in
set_option maxHeartbeats 1000000 in
theorem rframe_any (A : Option Addr) (n c : Nat) (ss : List (List UInt8)) (w : World) (hs : Sl w A c (strsV ss)) (hn : n = ss.length) (hm : sumS ss ≤ 1000000000) :
    Calls Tryd.prog 31 #[.slice A n c] w (GaveBytes (frameL ss) w) := by
  subst hn
  obtain ⟨i0, hi, hz0, hz1, hz2⟩ := info_parts infoByte
  have hl1 := sumS_len ss
  have hown0 : (w.alloc (.cells #[] 5)).ownsRow w.heap.size 5 1 (.slice (some ⟨w.heap.size, 0, none⟩) 0 0) 0 [] := World.ownsRow_lit w #[] 0 (Nat.le_refl _) (by unfold maxLen; omega) rfl
  have hb0 := (Below.refl w.heap.size w).alloc (Nat.le_refl _) (.cells #[] 5)
  go_enter Tryd.func31, Tryd.ntmps31
  go_wp2_with fail
  go_loopw [3, 9] (fun v i wr => ∃ k : Nat, k ≤ ss.length ∧ i = .int .i64 k ∧ wr.ownsRow w.heap.size 5 1 v (frameL (ss.take k)).length (byts (frameL (ss.take k))) ∧ Below w.heap.size w wr) (fun _ i _ => ss.length - (intOf i).toNat)
  case atStart => exact ⟨0, by omega, rfl, hown0, hb0⟩
  case round =>
    clear hown0 hb0
    obtain ⟨k, hk, rfl, hown, hb⟩ := hrel
    by_cases hlt : k < ss.length
    · obtain ⟨b, o, rfl, hb0, hr0⟩ := hs.rd.get (i := 0) (by rw [length_strsV]; omega)
      clear hb0 hr0
      have hix := index_strs (some ⟨b, o, none⟩) b o ss.length c k rfl hlt
      have hc := strs_cell (hs.later (Nat.le_refl _) hb) k hlt
      have HS := Lib.hid (frameL_succ ss k hlt)
      have hq1 := sumS_mem ss (ss.getD k []) (by rw [List.getD_eq_getElem?_getD, List.getElem?_eq_getElem hlt]; exact List.getElem_mem hlt)
      have hF := frameL_le ss k
      have hF2 := length_frameL ss
      generalize ss.getD k [] = q at *
      generalize frameL (ss.take k) = F at *
      have hz := size_bstr q
      have n1 : F.length + (eightL q.length).length ≤ maxLen := by rw [length_eightL]; unfold maxLen; omega
      have n2 : (F.length + (eightL q.length).length) * 1 ≤ 140737488355328 := by rw [length_eightL]; omega
      have m1 : F.length + (eightL q.length).length + q.length ≤ maxLen := by rw [length_eightL]; unfold maxLen; omega
      have m2 : (F.length + (eightL q.length).length + q.length) * 1 ≤ 140737488355328 := by rw [length_eightL]; omega
      have hql : (q.length : Int) ≤ 1000000000 := by omega
      have hnum := rnumber_any q.length (by omega)
      have HL8 := Lib.hid (show (eightL q.length).length = (byts (eightL q.length)).length from (length_byts _).symm)
      have HLq := Lib.hid (show q.length = (byts q).length from (length_byts q).symm)
      have HP := Lib.hid (show partL q = eightL q.length ++ q from rfl)
      have hbs := hb.size
      clear hq1 hF hF2
      generalize eightL q.length = e8 at *
      go_wp2_with (first
        | (go_at_call 44; refine (hnum _).mono ?_; rintro e w1 ⟨v1, rfl, hown1, hb1⟩; obtain ⟨A1, c1, rfl, _, hsl1⟩ := Sl.of_own hown1; have hownF := own_later hown hb1 (Nat.le_refl _); have hbw1 := hb.trans (hb1.mono hbs); clear hown1)
        | (at_builtin; refine wpList_append_sl rfl (.tmp 13) (.tmp 17) 53 rfl w.heap.size 5 i0 _ 1 Tryd.underlying53 hi hz0 hz1 hz2 rfl _ F.length (byts F) rfl hownF A1 e8.length c1 (byts e8) rfl HL8.out hsl1 (byts_one _) n1 n2 hbw1.size ?_; intro v2 w2 hown2 hg2; have hbw2 : Below w.heap.size w w2 := hbw1.grown hg2 hbw1.size (fun k hk => (hownF.lt k hk).1); clear hg2 hownF hsl1)
        | (refine wpList_conv_string rfl (.tmp 20) rfl q rfl ?_; intro A3 c3 w3 hsl3 hb3; have hown3 := own_later hown2 hb3 (Nat.le_refl _); have hbw3 := hbw2.trans (hb3.mono hbw2.size); clear hown2 hb3)
        | (at_builtin; refine wpList_append_sl rfl (.tmp 19) (.tmp 21) 53 rfl w.heap.size 5 i0 _ 1 Tryd.underlying53 hi hz0 hz1 hz2 rfl _ (F.length + e8.length) (byts F ++ byts e8) rfl hown3 A3 q.length c3 (byts q) rfl HLq.out hsl3 (byts_one _) m1 m2 hbw3.size ?_; intro v4 w4 hown4 hg4; have hbw4 : Below w.heap.size w w4 := hbw3.grown hg4 hbw3.size (fun k hk => (hown3.lt k hk).1)))
      go_roundw
      case rel =>
        refine ⟨k + 1, by omega, by go_num, ?_, hbw4⟩
        rw [HS.out, HP.out]
        have e1 : byts F ++ byts e8 ++ byts q = byts (F ++ (e8 ++ q)) := by rw [byts_append, byts_append, List.append_assoc]
        have e2 : F.length + e8.length + q.length = (F ++ (e8 ++ q)).length := by simp only [List.length_append]; omega
        rw [e1, e2] at hown4
        exact hown4
      case measure => simp [intOf]; omega
    · obtain rfl : k = ss.length := by omega
      rw [List.take_length] at hown
      clear hlt hk hs
      generalize ss.length = n at *
      go_wp2
      go_ret
      exact ⟨_, rfl, hown, hb⟩
end Go.Proofs.YtnkkgclmmaakgaaDoor
