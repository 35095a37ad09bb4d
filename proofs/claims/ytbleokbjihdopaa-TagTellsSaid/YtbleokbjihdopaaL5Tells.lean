/- LAYER 5, TagTells: the walk of the law. -/
import Derived.Test.YtbleokbjihdopaaTa
import Derived.Test.YtbleokbjihdopaaEq
namespace Go.Proofs.Ytbleokbjihdopaa
open Go Go.RowKit

set_option maxRecDepth 20000 in
set_option maxHeartbeats 1000000 in
theorem tells_walk (A : Option Addr) (n c : Nat) (l : List UInt8) (B : Option Addr) (m d : Nat) (k : List UInt8) (w : World) (hs : Sl w A c (byts l)) (hn : n = l.length) (hp : Sl w B d (byts k)) (hm : m = k.length)
    (hl : l.length ≤ 140737488355328) (hk : k.length ≤ 140737488355328) :
    Calls Try.prog 3 #[.slice A n c, .slice B m d] w fun e w' => e = .returned (.bool true) ∧ Below w.heap.size w w' := by
  subst hn hm
  obtain ⟨i0, hi, hz0, hz1, hz2⟩ := info_parts infoByte
  have n1 : 0 + l.length ≤ maxLen := by unfold maxLen; omega
  have n2 : (0 + l.length) * 1 ≤ 140737488355328 := by omega
  have hlb : l.length < 9223372036854775808 := by omega
  have hkb : k.length < 9223372036854775808 := by omega
  have HL := Lib.hid (show l.length = (byts l).length from (length_byts l).symm)
  have htl := length_ofT l
  obtain ⟨V, hV⟩ : ∃ V, V = byts (ofT l) := ⟨_, rfl⟩
  have hVl : V.length = 32 := by rw [hV, length_byts, htl]
  have hone := Lib.hid (all_one (show ∀ v ∈ V, v.oneCell' = true by rw [hV]; exact byts_one _))
  have hszl := Lib.hid (show (Try.prog.info? 25).map (·.size) = some V.length by rw [size_tag, hVl])
  have hsz := Lib.hid (show (Try.prog.info? 25).map (·.size) = some V.toArray.size by rw [size_tag, List.size_toArray, hVl])
  have h32' := Lib.hid (show 32 = V.toArray.size by rw [List.size_toArray, hVl])
  have HV := Lib.hid hV
  have hof := Lib.hid (show ∀ w1, Sl w1 A c (byts l) → Calls Try.prog 7 #[.slice A l.length c] w1 fun e w' => e = .returned (.tuple #[.agg V.toArray, .bool (decide (l.length = 32))]) ∧ Below w1.heap.size w1 w' by
    intro w1 h1
    have h := tof_any A l.length c l w1 h1 rfl
    unfold tagV at h
    rw [← hV] at h
    exact h)
  clear hV hVl htl
  go_enter Try.func3, Try.ntmps3
  go_wp2_with (first
    | (go_at_call 6; refine (talive_any _).mono ?_; rintro e w1 ⟨rfl, hb1⟩; have hs1 := hs.later (Nat.le_refl _) hb1)
    | (go_at_call 7; refine (hof.out _ hs1).mono ?_; rintro e w2 ⟨rfl, hb2⟩; have hb2w := hb1.trans (hb2.mono hb1.size))
    | (with_reducible refine wpList_store_row rfl 25 (.tmp 5) (.tmp 12) rfl w2.heap.size V.toArray rfl rfl 25 _ (heap_alloc_new w2 _) hsz.out (Eq.trans (by kernel_rfl) h32'.out) hone.out ?_; refine Hid.out ?_))
  refine Lib.hid ?_
  generalize hw3 : World.setRow _ _ _ = w3
  obtain ⟨r5, hb3⟩ := row_new_set (xs := V) hw3
  have hb3w := hb2w.trans (hb3.mono hb2w.size)
  generalize w2.heap.size = g5 at *
  have hs3 := hs.later (Nat.le_refl _) hb3w
  have hp3 := hp.later (Nat.le_refl _) hb3w
  clear hw3 hs1 hb1 hb2 hb2w hb3
  have hcvl := conv_later hs3 l.length rfl
  have hcvk := conv_later hp3 k.length rfl
  by_cases h32 : l.length = 32
  · have e1 : ofT l = l := by unfold ofT; rw [if_pos h32]
    have hslT : Sl w3 (some ⟨g5, 0, none⟩) 32 (byts l) := ⟨Rd.row (ys := []) (by rw [List.append_nil, ← e1, ← HV.out]; exact r5), by rw [length_byts, h32]; exact Nat.le_refl _, fun h => by cases h⟩
    have hcvT := conv_later hslT 32 h32.symm
    have hde : decide (l.length = 32) = true := decide_eq_true h32
    have hdi : ((l.length : Int) == 32) = true := by rw [beq_iff_eq]; omega
    clear e1 hslT
    have H32 := Lib.hid h32
    clear h32
    go_wp2_with fail
    refine wp_region_noPanic ?_
    refine wp_region_held_drew (S := fun w' => Below w3.heap.size w3 w') (by kernel_rfl) ((Below.refl _ _).drew) (fun hHeld => ?_)
    have hAll := hHeld
    refine rtake 0 _ (some 14) _ rfl rfl (by kernel_rfl) (by kernel_rfl) (by kernel_rfl) (fun _ _ _ h => h) (by rfl) hHeld (by intro w hS; go_simp; try with_reducible rfl) ?_
    try (rw [put_some]; dsimp only [List.set])
    refine rtake 1 _ (some 15) _ rfl rfl (by kernel_rfl) (by kernel_rfl) (by kernel_rfl) (fun _ _ _ h => h) (by rfl) hHeld (by intro w hS; go_simp; try with_reducible rfl) ?_
    try (rw [put_some]; dsimp only [List.set])
    refine rtake 2 _ (some 16) _ rfl rfl (by kernel_rfl) (by kernel_rfl) (by kernel_rfl) (fun _ _ _ h => h) (by rfl) hHeld (by intro w hS; go_simp; try with_reducible rfl) ?_
    try (rw [put_some]; dsimp only [List.set])
    refine rtake 3 _ (some 17) _ rfl rfl (by kernel_rfl) (by kernel_rfl) (by kernel_rfl) (fun _ _ _ h => h) (by rfl) hHeld (by intro w hS; go_simp; try with_reducible rfl) ?_
    try (rw [put_some]; dsimp only [List.set])
    refine rtake 4 _ (some 18) _ rfl rfl (by kernel_rfl) (by kernel_rfl) (by kernel_rfl) (fun _ _ _ h => h) (by rfl) hHeld (by intro w hS; go_simp; try with_reducible rfl) ?_
    try (rw [put_some]; dsimp only [List.set])
    refine rtake 5 _ (some 19) _ rfl rfl (by kernel_rfl) (by kernel_rfl) (by kernel_rfl) (fun _ _ _ h => h) (by rfl) hHeld (by intro w hS; go_simp; try with_reducible rfl) ?_
    try (rw [put_some]; dsimp only [List.set])
    refine rtake 6 _ (some 20) _ rfl rfl (by kernel_rfl) (by kernel_rfl) (by kernel_rfl) (fun _ _ _ h => h) (by rfl) hHeld (by intro w hS; go_simp; try with_reducible rfl) ?_
    try (rw [put_some]; dsimp only [List.set])
    refine rtake 7 _ (some 21) _ rfl rfl (by kernel_rfl) (by kernel_rfl) (by kernel_rfl) (fun _ _ _ h => h) (by rfl) hHeld (by intro w hS; go_simp; try with_reducible rfl) ?_
    try (rw [put_some]; dsimp only [List.set])
    refine rtake 8 _ (some 22) _ rfl rfl (by kernel_rfl) (by kernel_rfl) (by kernel_rfl) (fun _ _ _ h => h) (by rfl) hHeld (by intro w hS; go_simp; try with_reducible rfl) ?_
    try (rw [put_some]; dsimp only [List.set])
    refine rskip 9 _ (some 23) rfl rfl (by kernel_rfl) (by kernel_rfl) (by kernel_rfl) (fun _ _ _ h => h) (by rfl) hHeld ?_
    try (rw [put_some]; dsimp only [List.set])
    refine rskip 10 _ (some 24) rfl rfl (by kernel_rfl) (by kernel_rfl) (by kernel_rfl) (fun _ _ _ h => h) (by rfl) hHeld ?_
    try (rw [put_some]; dsimp only [List.set])
    refine rskip 11 _ (some 25) rfl rfl (by kernel_rfl) (by kernel_rfl) (by kernel_rfl) (fun _ _ _ h => h) (by rfl) hHeld ?_
    try (rw [put_some]; dsimp only [List.set])
    refine rtake 12 _ (some 26) _ rfl rfl (by kernel_rfl) (by kernel_rfl) (by kernel_rfl) (fun _ _ _ h => h) (by rfl) hHeld (by intro w hS; go_simp; try with_reducible rfl) ?_
    try (rw [put_some]; dsimp only [List.set])
    refine rtake 13 _ (some 27) _ rfl rfl (by kernel_rfl) (by kernel_rfl) (by kernel_rfl) (fun _ _ _ h => h) (by rfl) hHeld (by intro w hS; go_simp; try with_reducible rfl) ?_
    try (rw [put_some]; dsimp only [List.set])
    refine rtake 14 _ (some 28) _ rfl rfl (by kernel_rfl) (by kernel_rfl) (by kernel_rfl) (fun _ _ _ h => h) (by rfl) hHeld (by intro w hS; go_simp; try with_reducible rfl) ?_
    try (rw [put_some]; dsimp only [List.set])
    refine rtake 15 _ (some 29) _ rfl rfl (by kernel_rfl) (by kernel_rfl) (by kernel_rfl) (fun _ _ _ h => h) (by rfl) hHeld (by intro w hS; go_simp; try with_reducible rfl) ?_
    try (rw [put_some]; dsimp only [List.set])
    refine rtake 16 _ (some 30) _ rfl rfl (by kernel_rfl) (by kernel_rfl) (by kernel_rfl) (fun _ _ _ h => h) (by rfl) hHeld (by intro w hS; go_simp; try with_reducible rfl) ?_
    try (rw [put_some]; dsimp only [List.set])
    refine rtake 17 _ (some 31) _ rfl rfl (by kernel_rfl) (by kernel_rfl) (by kernel_rfl) (fun _ _ _ h => h) (by rfl) hHeld (by intro w hS; go_simp; try with_reducible rfl) ?_
    try (rw [put_some]; dsimp only [List.set])
    refine rtake 18 _ (some 32) _ rfl rfl (by kernel_rfl) (by kernel_rfl) (by kernel_rfl) (fun _ _ _ h => h) (by rfl) hHeld (by intro w hS; go_simp; try with_reducible rfl) ?_
    try (rw [put_some]; dsimp only [List.set])
    refine rtake 19 _ (some 33) _ rfl rfl (by kernel_rfl) (by kernel_rfl) (by kernel_rfl) (fun _ _ _ h => h) (by rfl) hHeld (by intro w hS; go_simp; try with_reducible rfl) ?_
    try (rw [put_some]; dsimp only [List.set])
    refine rtake 20 _ (some 34) _ rfl rfl (by kernel_rfl) (by kernel_rfl) (by kernel_rfl) (fun _ _ _ h => h) (by rfl) hHeld (by intro w hS; go_simp; try with_reducible rfl) ?_
    try (rw [put_some]; dsimp only [List.set])
    refine rtake 21 _ (some 35) _ rfl rfl (by kernel_rfl) (by kernel_rfl) (by kernel_rfl) (fun _ _ _ h => h) (by rfl) hHeld (by intro w hS; go_simp; try with_reducible rfl) ?_
    try (rw [put_some]; dsimp only [List.set])
    refine rtake 22 _ (some 36) _ rfl rfl (by kernel_rfl) (by kernel_rfl) (by kernel_rfl) (fun _ _ _ h => h) (by rfl) hHeld (by intro w hS; go_simp; try with_reducible rfl) ?_
    try (rw [put_some]; dsimp only [List.set])
    refine rtake 23 _ (some 37) _ rfl rfl (by kernel_rfl) (by kernel_rfl) (by kernel_rfl) (fun _ _ _ h => h) (by rfl) hHeld (by intro w hS; go_simp; try with_reducible rfl) ?_
    try (rw [put_some]; dsimp only [List.set])
    refine wpAnyH_done (by kernel_rfl) ?_ _
    refine NoPanic.normal ?_
    have hb4w := hb3w.trans (hAll.mono hb3w.size)
    clear hAll hHeld hcvT hde hdi r5
    generalize World.drew _ = w5 at *
    have hs5 := hs.later (Nat.le_refl _) hb4w
    have hp5 := hp.later (Nat.le_refl _) hb4w
    have hcvl := conv_later hs5 l.length rfl
    have hcvk := conv_later hp5 k.length rfl
    have hq := Lib.hid (equal_any A l.length c l B k.length d k w5.drew (hs5.later (Nat.le_refl _) (Below.refl _ _).drew) rfl (hp5.later (Nat.le_refl _) (Below.refl _ _).drew) rfl hlb hkb)
    have hbe := bstr_beq l k
    clear hs3 hp3 hs hp hb3w hof
    go_wp2_with fail
    refine wp_region_noPanic ?_
    refine wp_region_held_drew (S := fun w' => Below w5.heap.size w5 w') (by kernel_rfl) ((Below.refl _ _).drew) (fun hHeld => ?_)
    refine rtake 0 _ (some 38) _ rfl rfl (by kernel_rfl) (by kernel_rfl) (by kernel_rfl) (fun _ _ _ h => h) (by rfl) hHeld (by intro w hS; go_simp; try with_reducible rfl) ?_
    try (first | (rw [put_some]; dsimp only [List.set]) | rw [put_none])
    refine rtake 1 _ (some 39) _ rfl rfl (by kernel_rfl) (by kernel_rfl) (by kernel_rfl) (fun _ _ _ h => h) (by rfl) hHeld (by intro w hS; go_simp; try with_reducible rfl) ?_
    try (first | (rw [put_some]; dsimp only [List.set]) | rw [put_none])
    refine rtake 3 _ (some 41) _ rfl rfl (by kernel_rfl) (by kernel_rfl) (by kernel_rfl) (fun _ _ _ h => h) (by rfl) hHeld (by intro w hS; go_simp; try with_reducible rfl) ?_
    try (first | (rw [put_some]; dsimp only [List.set]) | rw [put_none])
    refine rtake 5 _ (some 43) _ rfl rfl (by kernel_rfl) (by kernel_rfl) (by kernel_rfl) (fun _ _ _ h => h) (by rfl) hHeld (by intro w hS; go_simp; try with_reducible rfl) ?_
    try (first | (rw [put_some]; dsimp only [List.set]) | rw [put_none])
    refine rtake 4 _ (some 42) _ rfl rfl (by kernel_rfl) (by kernel_rfl) (by kernel_rfl) (fun _ _ _ h => h) (by rfl) hHeld (by intro w hS; go_simp; try with_reducible rfl) ?_
    try (first | (rw [put_some]; dsimp only [List.set]) | rw [put_none])
    refine rtake 6 _ (some 44) _ rfl rfl (by kernel_rfl) (by kernel_rfl) (by kernel_rfl) (fun _ _ _ h => h) (by rfl) hHeld (by intro w hS; go_simp; try with_reducible rfl) ?_
    try (first | (rw [put_some]; dsimp only [List.set]) | rw [put_none])
    refine rtake 7 _ (some 45) _ rfl rfl (by kernel_rfl) (by kernel_rfl) (by kernel_rfl) (fun _ _ _ h => h) (by rfl) hHeld (by intro w hS; go_simp; try with_reducible rfl) ?_
    try (first | (rw [put_some]; dsimp only [List.set]) | rw [put_none])
    refine wpAnyH_ready (rs := [2]) (by kernel_rfl) (by simp) (AllReadyH.cons (o := _) rfl (fun K hK => ?_) AllReadyH.nil)
    go_simp
    refine hq.out.mono ?_; rintro e w6 ⟨rfl, rfl⟩
    try go_wp2_with fail
    refine hK.out _ _ hHeld (fun _ => ?_)
    clear hK K
    try (first | (rw [put_some]; dsimp only [List.set]) | rw [put_none])
    refine rtake 8 _ (some 46) _ rfl rfl (by kernel_rfl) (by kernel_rfl) (by kernel_rfl) (fun _ _ _ h => h) (by rfl) hHeld (by intro w hS; go_simp; try with_reducible rfl) ?_
    try (first | (rw [put_some]; dsimp only [List.set]) | rw [put_none])
    refine rtake 9 _ (some 47) _ rfl rfl (by kernel_rfl) (by kernel_rfl) (by kernel_rfl) (fun _ _ _ h => h) (by rfl) hHeld (by intro w hS; go_simp; try with_reducible rfl) ?_
    try (first | (rw [put_some]; dsimp only [List.set]) | rw [put_none])
    refine rtake 10 _ (some 48) _ rfl rfl (by kernel_rfl) (by kernel_rfl) (by kernel_rfl) (fun _ _ _ h => h) (by rfl) hHeld (by intro w hS; go_simp; try with_reducible rfl) ?_
    try (first | (rw [put_some]; dsimp only [List.set]) | rw [put_none])
    refine rtake 12 _ (some 50) _ rfl rfl (by kernel_rfl) (by kernel_rfl) (by kernel_rfl) (fun _ _ _ h => h) (by rfl) hHeld (by intro w hS; go_simp; try with_reducible rfl) ?_
    try (first | (rw [put_some]; dsimp only [List.set]) | rw [put_none])
    refine wpAnyH_ready (rs := [11]) (by kernel_rfl) (by simp) (AllReadyH.cons (o := _) rfl (fun K hK => ?_) AllReadyH.nil)
    refine step_alloc (some 49) rfl (by rfl) (.slice (some ⟨w5.heap.size, 0, none⟩) 0 0) (.cells #[] 5) (by go_simp) ?_; intro w8 hw8 hb8; have hown8 : w8.ownsRow w5.heap.size 5 1 (.slice (some ⟨w5.heap.size, 0, none⟩) 0 0) 0 [] := (by rw [hw8]; exact World.ownsRow_lit w5.drew #[] 0 (Nat.le_refl _) (by unfold maxLen; omega) rfl); have hb58 := below_step hHeld hb8; have hs8 := hs5.later (Nat.le_refl _) hb58; clear hw8
    refine hK.out _ _ (hb58) (fun hHeld => ?_)
    clear hK K
    try (first | (rw [put_some]; dsimp only [List.set]) | rw [put_none])
    refine wpAnyH_ready (rs := [13]) (by kernel_rfl) (by simp) (AllReadyH.cons (o := _) rfl (fun K hK => ?_) AllReadyH.nil)
    refine step_append_at (some 51) rfl (by rfl) (.tmp 49) (.tmp 50) 22 rfl w5.heap.size 5 i0 _ 1 Try.underlying22 hi hz0 hz1 hz2 rfl _ 0 [] rfl hown8 A l.length c (byts l) rfl HL.out hs8 (byts_one _) n1 n2 w5 rfl hb58 ?_; intro v9 w9 hown9 _ hb9; obtain ⟨A9, c9, rfl, _, hsl9⟩ := Sl.of_own hown9
    refine hK.out _ _ (hb9) (fun hHeld => ?_)
    clear hK K
    try (first | (rw [put_some]; dsimp only [List.set]) | rw [put_none])
    refine wpAnyH_ready (rs := [14]) (by kernel_rfl) (by simp) (AllReadyH.cons (o := _) rfl (fun K hK => ?_) AllReadyH.nil)
    go_simp
    refine (equal_any A l.length c l A9 l.length c9 l _ (hs5.later (Nat.le_refl _) hHeld) rfl hsl9 rfl hlb hlb).mono ?_; rintro e w10 ⟨rfl, rfl⟩; rw [decide_eq_true rfl]
    try go_wp2_with fail
    refine hK.out _ _ hHeld (fun _ => ?_)
    clear hK K
    try (first | (rw [put_some]; dsimp only [List.set]) | rw [put_none])
    refine rtake 15 _ (some 53) _ rfl rfl (by kernel_rfl) (by kernel_rfl) (by kernel_rfl) (fun _ _ _ h => h) (by rfl) hHeld (by intro w hS; go_simp; try with_reducible rfl) ?_
    try (first | (rw [put_some]; dsimp only [List.set]) | rw [put_none])
    refine rtake 16 _ (some 4) _ rfl rfl (by kernel_rfl) (by kernel_rfl) (by kernel_rfl) (fun _ _ _ h => h) (by rfl) hHeld (by intro w hS; go_simp; try with_reducible rfl) ?_
    try (first | (rw [put_some]; dsimp only [List.set]) | rw [put_none])
    refine wpAnyH_done (by kernel_rfl) ?_ _
    refine NoPanic.normal ?_
    have hb9w := hb4w.trans (hHeld.mono hb4w.size)
    clear hs5 hp5 hcvl hcvk hbe hq
    go_wp2_with fail
    go_ret
    exact ⟨rfl, hb9w⟩
  · have hde : decide (l.length = 32) = false := decide_eq_false h32
    have hdi : ((l.length : Int) == 32) = false := by rw [beq_eq_false_iff_ne]; omega
    have e1 : ofT l = zeroT := by unfold ofT; rw [if_neg h32]
    have hz : ∀ w, (Instr.build 25 #[]).run Try.prog w = .ok (.agg V.toArray) w := by
      intro w
      rw [HV.out, e1]
      exact zero_tag w
    obtain ⟨j0, hj0, _, _, _⟩ := info_parts infoByte
    have hE : ∀ w, (Op.equalIn 10000 25 (.agg V.toArray) (.agg V.toArray)).run Try.prog w = .ok true w := by
      intro w
      rw [HV.out, run_eq_bytes 25 32 j0 Try.underlying25 hj0 (ofT l) (ofT l) (length_ofT l) (length_ofT l) w, decide_eq_true rfl]
    clear e1
    go_wp2_with fail
    refine wp_region_noPanic ?_
    refine wp_region_held_drew (S := fun w' => Below w3.heap.size w3 w') (by kernel_rfl) ((Below.refl _ _).drew) (fun hHeld => ?_)
    have hAll := hHeld
    refine rtake 0 _ (some 14) _ rfl rfl (by kernel_rfl) (by kernel_rfl) (by kernel_rfl) (fun _ _ _ h => h) (by rfl) hHeld (by intro w hS; go_simp; try with_reducible rfl) ?_
    try (rw [put_some]; dsimp only [List.set])
    refine rtake 1 _ (some 15) _ rfl rfl (by kernel_rfl) (by kernel_rfl) (by kernel_rfl) (fun _ _ _ h => h) (by rfl) hHeld (by intro w hS; go_simp; try with_reducible rfl) ?_
    try (rw [put_some]; dsimp only [List.set])
    refine rtake 2 _ (some 16) _ rfl rfl (by kernel_rfl) (by kernel_rfl) (by kernel_rfl) (fun _ _ _ h => h) (by rfl) hHeld (by intro w hS; go_simp; try with_reducible rfl) ?_
    try (rw [put_some]; dsimp only [List.set])
    refine rtake 3 _ (some 17) _ rfl rfl (by kernel_rfl) (by kernel_rfl) (by kernel_rfl) (fun _ _ _ h => h) (by rfl) hHeld (by intro w hS; go_simp; try with_reducible rfl) ?_
    try (rw [put_some]; dsimp only [List.set])
    refine rtake 4 _ (some 18) _ rfl rfl (by kernel_rfl) (by kernel_rfl) (by kernel_rfl) (fun _ _ _ h => h) (by rfl) hHeld (by intro w hS; go_simp; try with_reducible rfl) ?_
    try (rw [put_some]; dsimp only [List.set])
    refine rtake 5 _ (some 19) _ rfl rfl (by kernel_rfl) (by kernel_rfl) (by kernel_rfl) (fun _ _ _ h => h) (by rfl) hHeld (by intro w hS; go_simp; try with_reducible rfl) ?_
    try (rw [put_some]; dsimp only [List.set])
    refine rtake 6 _ (some 20) _ rfl rfl (by kernel_rfl) (by kernel_rfl) (by kernel_rfl) (fun _ _ _ h => h) (by rfl) hHeld (by intro w hS; go_simp; try with_reducible rfl) ?_
    try (rw [put_some]; dsimp only [List.set])
    refine rtake 7 _ (some 21) _ rfl rfl (by kernel_rfl) (by kernel_rfl) (by kernel_rfl) (fun _ _ _ h => h) (by rfl) hHeld (by intro w hS; go_simp; try with_reducible rfl) ?_
    try (rw [put_some]; dsimp only [List.set])
    refine rtake 8 _ (some 22) _ rfl rfl (by kernel_rfl) (by kernel_rfl) (by kernel_rfl) (fun _ _ _ h => h) (by rfl) hHeld (by intro w hS; go_simp; try with_reducible rfl) ?_
    try (rw [put_some]; dsimp only [List.set])
    refine rtake 9 _ (some 23) _ rfl rfl (by kernel_rfl) (by kernel_rfl) (by kernel_rfl) (fun _ _ _ h => h) (by rfl) hHeld (by intro w hS; exact run_load_op 25 (.tmp 5) rfl g5 0 rfl V _ (row_range (r5.later hS r5.lt)) Try.underlying25 rfl hszl.out) ?_
    try (rw [put_some]; dsimp only [List.set])
    refine rtake 10 _ (some 24) _ rfl rfl (by kernel_rfl) (by kernel_rfl) (by kernel_rfl) (fun _ _ _ h => h) (by rfl) hHeld (by intro w hS; exact run_build_op 25 rfl _ (hz _)) ?_
    try (rw [put_some]; dsimp only [List.set])
    refine rtake 11 _ (some 25) _ rfl rfl (by kernel_rfl) (by kernel_rfl) (by kernel_rfl) (fun _ _ _ h => h) (by rfl) hHeld (by intro w hS; go_simp; try with_reducible rfl) ?_
    try (rw [put_some]; dsimp only [List.set])
    refine rtake 12 _ (some 26) _ rfl rfl (by kernel_rfl) (by kernel_rfl) (by kernel_rfl) (fun _ _ _ h => h) (by rfl) hHeld (by intro w hS; go_simp; try with_reducible rfl) ?_
    try (rw [put_some]; dsimp only [List.set])
    refine rtake 13 _ (some 27) _ rfl rfl (by kernel_rfl) (by kernel_rfl) (by kernel_rfl) (fun _ _ _ h => h) (by rfl) hHeld (by intro w hS; go_simp; try with_reducible rfl) ?_
    try (rw [put_some]; dsimp only [List.set])
    refine rtake 14 _ (some 28) _ rfl rfl (by kernel_rfl) (by kernel_rfl) (by kernel_rfl) (fun _ _ _ h => h) (by rfl) hHeld (by intro w hS; go_simp; try with_reducible rfl) ?_
    try (rw [put_some]; dsimp only [List.set])
    refine rtake 15 _ (some 29) _ rfl rfl (by kernel_rfl) (by kernel_rfl) (by kernel_rfl) (fun _ _ _ h => h) (by rfl) hHeld (by intro w hS; go_simp; try with_reducible rfl) ?_
    try (rw [put_some]; dsimp only [List.set])
    refine rtake 16 _ (some 30) _ rfl rfl (by kernel_rfl) (by kernel_rfl) (by kernel_rfl) (fun _ _ _ h => h) (by rfl) hHeld (by intro w hS; go_simp; try with_reducible rfl) ?_
    try (rw [put_some]; dsimp only [List.set])
    refine rskip 17 _ (some 31) rfl rfl (by kernel_rfl) (by kernel_rfl) (by kernel_rfl) (fun _ _ _ h => h) (by rfl) hHeld ?_
    try (rw [put_some]; dsimp only [List.set])
    refine rskip 18 _ (some 32) rfl rfl (by kernel_rfl) (by kernel_rfl) (by kernel_rfl) (fun _ _ _ h => h) (by rfl) hHeld ?_
    try (rw [put_some]; dsimp only [List.set])
    refine rskip 19 _ (some 33) rfl rfl (by kernel_rfl) (by kernel_rfl) (by kernel_rfl) (fun _ _ _ h => h) (by rfl) hHeld ?_
    try (rw [put_some]; dsimp only [List.set])
    refine rskip 20 _ (some 34) rfl rfl (by kernel_rfl) (by kernel_rfl) (by kernel_rfl) (fun _ _ _ h => h) (by rfl) hHeld ?_
    try (rw [put_some]; dsimp only [List.set])
    refine rskip 21 _ (some 35) rfl rfl (by kernel_rfl) (by kernel_rfl) (by kernel_rfl) (fun _ _ _ h => h) (by rfl) hHeld ?_
    try (rw [put_some]; dsimp only [List.set])
    refine rtake 22 _ (some 36) _ rfl rfl (by kernel_rfl) (by kernel_rfl) (by kernel_rfl) (fun _ _ _ h => h) (by rfl) hHeld (by intro w hS; go_simp; try with_reducible rfl) ?_
    try (rw [put_some]; dsimp only [List.set])
    refine rtake 23 _ (some 37) _ rfl rfl (by kernel_rfl) (by kernel_rfl) (by kernel_rfl) (fun _ _ _ h => h) (by rfl) hHeld (by intro w hS; go_simp; try with_reducible rfl) ?_
    try (rw [put_some]; dsimp only [List.set])
    refine wpAnyH_done (by kernel_rfl) ?_ _
    refine NoPanic.normal ?_
    have hb4w := hb3w.trans (hAll.mono hb3w.size)
    clear hAll hHeld hz hE hj0 hde hdi r5
    generalize World.drew _ = w5 at *
    have hs5 := hs.later (Nat.le_refl _) hb4w
    have hp5 := hp.later (Nat.le_refl _) hb4w
    have hcvl := conv_later hs5 l.length rfl
    have hcvk := conv_later hp5 k.length rfl
    have hq := Lib.hid (equal_any A l.length c l B k.length d k w5.drew (hs5.later (Nat.le_refl _) (Below.refl _ _).drew) rfl (hp5.later (Nat.le_refl _) (Below.refl _ _).drew) rfl hlb hkb)
    have hbe := bstr_beq l k
    clear hs3 hp3 hs hp hb3w hof
    go_wp2_with fail
    refine wp_region_noPanic ?_
    refine wp_region_held_drew (S := fun w' => Below w5.heap.size w5 w') (by kernel_rfl) ((Below.refl _ _).drew) (fun hHeld => ?_)
    refine rtake 0 _ (some 38) _ rfl rfl (by kernel_rfl) (by kernel_rfl) (by kernel_rfl) (fun _ _ _ h => h) (by rfl) hHeld (by intro w hS; go_simp; try with_reducible rfl) ?_
    try (first | (rw [put_some]; dsimp only [List.set]) | rw [put_none])
    refine rtake 1 _ (some 39) _ rfl rfl (by kernel_rfl) (by kernel_rfl) (by kernel_rfl) (fun _ _ _ h => h) (by rfl) hHeld (by intro w hS; go_simp; try with_reducible rfl) ?_
    try (first | (rw [put_some]; dsimp only [List.set]) | rw [put_none])
    refine rtake 3 _ (some 41) _ rfl rfl (by kernel_rfl) (by kernel_rfl) (by kernel_rfl) (fun _ _ _ h => h) (by rfl) hHeld (by intro w hS; go_simp; try with_reducible rfl) ?_
    try (first | (rw [put_some]; dsimp only [List.set]) | rw [put_none])
    refine rtake 5 _ (some 43) _ rfl rfl (by kernel_rfl) (by kernel_rfl) (by kernel_rfl) (fun _ _ _ h => h) (by rfl) hHeld (by intro w hS; go_simp; try with_reducible rfl) ?_
    try (first | (rw [put_some]; dsimp only [List.set]) | rw [put_none])
    refine rtake 4 _ (some 42) _ rfl rfl (by kernel_rfl) (by kernel_rfl) (by kernel_rfl) (fun _ _ _ h => h) (by rfl) hHeld (by intro w hS; go_simp; try with_reducible rfl) ?_
    try (first | (rw [put_some]; dsimp only [List.set]) | rw [put_none])
    refine rtake 6 _ (some 44) _ rfl rfl (by kernel_rfl) (by kernel_rfl) (by kernel_rfl) (fun _ _ _ h => h) (by rfl) hHeld (by intro w hS; go_simp; try with_reducible rfl) ?_
    try (first | (rw [put_some]; dsimp only [List.set]) | rw [put_none])
    refine rtake 7 _ (some 45) _ rfl rfl (by kernel_rfl) (by kernel_rfl) (by kernel_rfl) (fun _ _ _ h => h) (by rfl) hHeld (by intro w hS; go_simp; try with_reducible rfl) ?_
    try (first | (rw [put_some]; dsimp only [List.set]) | rw [put_none])
    refine wpAnyH_ready (rs := [2]) (by kernel_rfl) (by simp) (AllReadyH.cons (o := _) rfl (fun K hK => ?_) AllReadyH.nil)
    go_simp
    refine hq.out.mono ?_; rintro e w6 ⟨rfl, rfl⟩
    try go_wp2_with fail
    refine hK.out _ _ hHeld (fun _ => ?_)
    clear hK K
    try (first | (rw [put_some]; dsimp only [List.set]) | rw [put_none])
    refine rtake 8 _ (some 46) _ rfl rfl (by kernel_rfl) (by kernel_rfl) (by kernel_rfl) (fun _ _ _ h => h) (by rfl) hHeld (by intro w hS; go_simp; try with_reducible rfl) ?_
    try (first | (rw [put_some]; dsimp only [List.set]) | rw [put_none])
    refine rtake 9 _ (some 47) _ rfl rfl (by kernel_rfl) (by kernel_rfl) (by kernel_rfl) (fun _ _ _ h => h) (by rfl) hHeld (by intro w hS; go_simp; try with_reducible rfl) ?_
    try (first | (rw [put_some]; dsimp only [List.set]) | rw [put_none])
    refine rtake 10 _ (some 48) _ rfl rfl (by kernel_rfl) (by kernel_rfl) (by kernel_rfl) (fun _ _ _ h => h) (by rfl) hHeld (by intro w hS; go_simp; try with_reducible rfl) ?_
    try (first | (rw [put_some]; dsimp only [List.set]) | rw [put_none])
    refine rtake 12 _ (some 50) _ rfl rfl (by kernel_rfl) (by kernel_rfl) (by kernel_rfl) (fun _ _ _ h => h) (by rfl) hHeld (by intro w hS; go_simp; try with_reducible rfl) ?_
    try (first | (rw [put_some]; dsimp only [List.set]) | rw [put_none])
    refine wpAnyH_ready (rs := [11]) (by kernel_rfl) (by simp) (AllReadyH.cons (o := _) rfl (fun K hK => ?_) AllReadyH.nil)
    refine step_alloc (some 49) rfl (by rfl) (.slice (some ⟨w5.heap.size, 0, none⟩) 0 0) (.cells #[] 5) (by go_simp) ?_; intro w8 hw8 hb8; have hown8 : w8.ownsRow w5.heap.size 5 1 (.slice (some ⟨w5.heap.size, 0, none⟩) 0 0) 0 [] := (by rw [hw8]; exact World.ownsRow_lit w5.drew #[] 0 (Nat.le_refl _) (by unfold maxLen; omega) rfl); have hb58 := below_step hHeld hb8; have hs8 := hs5.later (Nat.le_refl _) hb58; clear hw8
    refine hK.out _ _ (hb58) (fun hHeld => ?_)
    clear hK K
    try (first | (rw [put_some]; dsimp only [List.set]) | rw [put_none])
    refine wpAnyH_ready (rs := [13]) (by kernel_rfl) (by simp) (AllReadyH.cons (o := _) rfl (fun K hK => ?_) AllReadyH.nil)
    refine step_append_at (some 51) rfl (by rfl) (.tmp 49) (.tmp 50) 22 rfl w5.heap.size 5 i0 _ 1 Try.underlying22 hi hz0 hz1 hz2 rfl _ 0 [] rfl hown8 A l.length c (byts l) rfl HL.out hs8 (byts_one _) n1 n2 w5 rfl hb58 ?_; intro v9 w9 hown9 _ hb9; obtain ⟨A9, c9, rfl, _, hsl9⟩ := Sl.of_own hown9
    refine hK.out _ _ (hb9) (fun hHeld => ?_)
    clear hK K
    try (first | (rw [put_some]; dsimp only [List.set]) | rw [put_none])
    refine wpAnyH_ready (rs := [14]) (by kernel_rfl) (by simp) (AllReadyH.cons (o := _) rfl (fun K hK => ?_) AllReadyH.nil)
    go_simp
    refine (equal_any A l.length c l A9 l.length c9 l _ (hs5.later (Nat.le_refl _) hHeld) rfl hsl9 rfl hlb hlb).mono ?_; rintro e w10 ⟨rfl, rfl⟩; rw [decide_eq_true rfl]
    try go_wp2_with fail
    refine hK.out _ _ hHeld (fun _ => ?_)
    clear hK K
    try (first | (rw [put_some]; dsimp only [List.set]) | rw [put_none])
    refine rtake 15 _ (some 53) _ rfl rfl (by kernel_rfl) (by kernel_rfl) (by kernel_rfl) (fun _ _ _ h => h) (by rfl) hHeld (by intro w hS; go_simp; try with_reducible rfl) ?_
    try (first | (rw [put_some]; dsimp only [List.set]) | rw [put_none])
    refine rtake 16 _ (some 4) _ rfl rfl (by kernel_rfl) (by kernel_rfl) (by kernel_rfl) (fun _ _ _ h => h) (by rfl) hHeld (by intro w hS; go_simp; try with_reducible rfl) ?_
    try (first | (rw [put_some]; dsimp only [List.set]) | rw [put_none])
    refine wpAnyH_done (by kernel_rfl) ?_ _
    refine NoPanic.normal ?_
    have hb9w := hb4w.trans (hHeld.mono hb4w.size)
    clear hs5 hp5 hcvl hcvk hbe hq
    go_wp2_with fail
    go_ret
    exact ⟨rfl, hb9w⟩
end Go.Proofs.Ytbleokbjihdopaa
