/- LAYER 11, BundleLong, proved: for any two numbers, and every state of memory, the call returns true and turns nothing that was there: a bundle of large tokens has bytes just if these are few enough; bytes that are too many are none's. Conditions: none. -/
import Derived.Test.YthiebbhooigogaaGUt
import Derived.Deep.Cut
import Derived.Deep.CutRange
import Derived.Deep.DeepCutAuto
import Derived.Test.YthiebbhooigogaaK
/- LAYER 11, BundleLong: the walk of the law. -/
namespace Go.Proofs.Ythiebbhooigogaa
open Go Go.RowKit

theorem Sl.apartO {w w' : World} {A : Option Addr} {c : Nat} {xs : List Value} {row : Option Nat} (h : Sl w A c xs) (hg : w.grownBy w' row) (hne : ∀ a, A = some a → row ≠ some a.block) : Sl w' A c xs := by
  cases row with
  | none => exact h.apart (g := w.heap.size) ⟨hg.os, hg.tape, hg.output, hg.size, fun k hk _ => hg.block k hk (fun e => by cases e)⟩ (fun hx a ha => by have := h.block_lt hx ha; omega)
  | some g => exact h.apart hg (fun _ a ha e => hne a ha (by rw [e]))
theorem encB_len (b : Bun) : (encB b).length ≤ 65536 := by
  unfold encB
  split
  · rename_i h; exact h.2
  · exact Nat.zero_le _
theorem errD_long {l : List UInt8} (h : l.length = 65537) : errD l = 3 ∧ bunD l = zeroB := by
  constructor
  · unfold errD; rw [if_pos (by omega)]
  · unfold bunD; rw [if_pos (by omega)]
theorem step_make_bytes {w : World} {ops : Array Oper} {o : Oper} {a : Act} {K : Act → World → Prop} {Q : Exit → Act → World → Prop} {E : Prop} (dst : Option Tmp) (hdst : o.dst = dst) (hgd : Region.wanted o (yielded ops a.tmps) = true) (x y : Operand)
    (ho : o.op = .makeSlice 31 x y) (n : Nat) (zl : List UInt8) (hz : zl = List.replicate n 0) (hx : a.eval x = .int .i64 n) (hy : a.eval y = .int .i64 n) (hn : n ≤ 1000000)
    (h : ∀ w', Sl w' (some ⟨w.heap.size, 0, none⟩) n (byts zl) → w.heap.size < w'.heap.size → Below w.heap.size w w' → K (a.put dst (.slice (some ⟨w.heap.size, 0, none⟩) n n)) w') :
    if Region.wanted o (yielded ops a.tmps) = true then Oper.wp Try.prog o a w K Q else E := by
  subst hdst
  rw [if_pos hgd]
  obtain ⟨i0, hi, hz0, hz1, hz2⟩ := info_parts infoByte
  obtain ⟨w', hrun, hown, hgr⟩ := run_make_full (P := Try.prog) (w := w) w.heap.size 31 5 i0 _ 1 Try.underlying31 hi hz0 hz1 .i64 .i64 n (by rw [hz2]; omega) (by unfold maxLen; omega) (Nat.le_refl _)
  rw [made_list, ← byts_zeros, ← hz] at hown
  have hsl := sl_own hown
  have hlt : w.heap.size < w'.heap.size := (hown.lt _ rfl).2
  unfold Oper.wp execOp
  simp only [ho, hx, hy, hrun, Sem.run_bind, Sem.run_pure, Result.andThen_ok]
  exact h w' hsl hlt ((Below.refl _ _).grown hgr (Nat.le_refl _) (fun k h => by cases h))
theorem wpList_make_bytes {w : World} {ops : Array Oper} {rest : List Oper} {o : Oper} {a : Act} {Q : Exit → Act → World → Prop} (hgd : o.guard = none) (x y : Operand)
    (ho : o.op = .makeSlice 31 x y) (n : Nat) (N : Int) (zl : List UInt8) (hz : zl = List.replicate n 0) (hx : a.eval x = .int .i64 N) (hy : a.eval y = .int .i64 N) (hN : N = (n : Int)) (hn : n ≤ 1000000)
    (h : ∀ w', Sl w' (some ⟨w.heap.size, 0, none⟩) n (byts zl) → Below w.heap.size w w' → wpList Try.prog ops Q rest (a.put o.dst (.slice (some ⟨w.heap.size, 0, none⟩) n n)) w') : wpList Try.prog ops Q (o :: rest) a w := by
  subst hN
  refine wpList_plain hgd fun _ hK => ?_
  obtain ⟨i0, hi, hz0, hz1, hz2⟩ := info_parts infoByte
  obtain ⟨w', hrun, hown, hgr⟩ := run_make_full (P := Try.prog) (w := w) w.heap.size 31 5 i0 _ 1 Try.underlying31 hi hz0 hz1 .i64 .i64 n (by rw [hz2]; omega) (by unfold maxLen; omega) (Nat.le_refl _)
  rw [made_list, ← byts_zeros, ← hz] at hown
  have hsl := sl_own hown
  unfold Oper.wp execOp
  simp only [ho, hx, hy, hrun, Sem.run_bind, Sem.run_pure, Result.andThen_ok]
  exact hK _ _ (h w' hsl ((Below.refl _ _).grown hgr (Nat.le_refl _) (fun k h => by cases h)))
set_option maxRecDepth 100000 in
set_option maxHeartbeats 4000000 in
theorem blong_walk (m0 m1 : Nat) (hm0 : m0 < 65536) (hm1 : m1 < 65536) (w : World) :
    Calls Try.prog 5 #[.int .u16 m0, .int .u16 m1] w fun e w' => e = .returned (.bool true) ∧ Below w.heap.size w w' := by
  obtain ⟨n, hn⟩ : ∃ n, n = m0 % 18 := ⟨_, rfl⟩
  obtain ⟨k, hkq⟩ : ∃ k, k = m1 % 1024 := ⟨_, rfl⟩
  have hn' : (m0 : Int) % 18 = (n : Int) := by omega
  have hk' : (m1 : Int) % 1024 = (k : Int) := by omega
  have hk : k ≤ 1000000 := by omega
  have hk2 : k ≤ 1024 := by omega
  have hnn : n ≤ 17 := by omega
  obtain ⟨zl, hzq⟩ : ∃ zl : List UInt8, zl = List.replicate k 0 := ⟨_, rfl⟩
  have hzl := Lib.hid hzq
  have hkz := Lib.hid (show k = zl.length by rw [hzq, List.length_replicate])
  clear hzq hn hkq
  go_enter Try.func5, Try.ntmps5
  go_wp2_with (go_at_call 6; refine (balive_any _).mono ?_; rintro e w3 ⟨rfl, hb3⟩)
  rw [hn', hk']
  clear hn' hk' hm0 hm1
  go_cut [7] (fun p wx => ∃ g, p = .pointer (some ⟨g, 0, none⟩) ∧ Row wx g 51 (cavV ⟨true, [], 0, zl, zl⟩) ∧ Below w3.heap.size w3 wx)
  case first =>
    refine wp_region_noPanic ?_
    refine wp_region_held_drew (S := fun _ => True) (by kernel_rfl) trivial (fun hHeld => ?_)
    have hbs : Below w3.heap.size w3 (World.drew w3) := (Below.refl _ _).drew
    refine rtake 0 _ (some 26) _ rfl rfl (by kernel_rfl) (by kernel_rfl) (by kernel_rfl) (fun _ _ _ h => h) (by rfl) hHeld (by intro w hS; go_simp; try with_reducible rfl) ?_
    try (first | (rw [put_some]; dsimp only [List.set]) | rw [put_none])
    refine rtake 3 _ (some 29) _ rfl rfl (by kernel_rfl) (by kernel_rfl) (by kernel_rfl) (fun _ _ _ h => h) (by rfl) hHeld (by intro w hS; go_simp; try with_reducible rfl) ?_
    try (first | (rw [put_some]; dsimp only [List.set]) | rw [put_none])
    refine wpAnyH_ready (rs := [1, 4, 7]) (by kernel_rfl) (by simp) (AllReadyH.cons (o := _) rfl (fun K hK => ?_) (AllReadyH.cons (o := _) rfl (fun K hK => ?_) (AllReadyH.cons (o := _) rfl (fun K hK => ?_) AllReadyH.nil)))
    · refine step_make_bytes (some 27) rfl (by rfl) (.tmp 26) (.tmp 26) rfl k zl hzl.out rfl rfl hk ?_; intro x1 hm1 hlt1 hb1; have hbs := hbs.trans (hb1.mono hbs.size); have hm1 : Sl x1 (some ⟨w3.heap.size, 0, none⟩) k (byts zl) := hm1; have hlt1 : w3.heap.size < x1.heap.size := hlt1
      refine hK.out _ _ trivial (fun _ => ?_)
      clear hK K
      try (first | (rw [put_some]; dsimp only [List.set]) | rw [put_none])
      refine wpAnyH_narrow (S' := fun w' => Sl w' (some ⟨w3.heap.size, 0, none⟩) k (byts zl)) (fun _ h => trivial) _ _ _ _ ?_
      clear hHeld
      have hHeld := hm1
      refine rtake 2 _ (some 28) _ rfl rfl (by kernel_rfl) (by kernel_rfl) (by kernel_rfl) (fun _ _ _ h => h) (by rfl) hHeld (by intro w hS; have hcv := conv_bytes (hS) k hkz.out; go_simp; try with_reducible rfl) ?_
      try (first | (rw [put_some]; dsimp only [List.set]) | rw [put_none])
      refine wpAnyH_ready (rs := [4, 7]) (by kernel_rfl) (by simp) (AllReadyH.cons (o := _) rfl (fun K hK => ?_) (AllReadyH.cons (o := _) rfl (fun K hK => ?_) AllReadyH.nil))
      · refine step_make_bytes (some 30) rfl (by rfl) (.tmp 29) (.tmp 29) rfl k zl hzl.out rfl rfl hk ?_; intro x4 hm4 hlt4 hb4; have hm1 := hm1.later (Nat.le_refl _) hb4; have hbs := hbs.trans (hb4.mono hbs.size); have hm4 : Sl x4 (some ⟨x1.heap.size, 0, none⟩) k (byts zl) := hm4; have hlt4 : x1.heap.size < x4.heap.size := hlt4
        refine hK.out _ _ hm1 (fun _ => ?_)
        clear hK K
        try (first | (rw [put_some]; dsimp only [List.set]) | rw [put_none])
        refine wpAnyH_narrow (S' := fun w' => Sl w' (some ⟨w3.heap.size, 0, none⟩) k (byts zl) ∧ Sl w' (some ⟨x1.heap.size, 0, none⟩) k (byts zl)) (fun _ h => h.1) _ _ _ _ ?_
        clear hHeld
        have hHeld := And.intro hm1 hm4
        refine rtake 5 _ (some 31) _ rfl rfl (by kernel_rfl) (by kernel_rfl) (by kernel_rfl) (fun _ _ _ h => h) (by rfl) hHeld (by intro w hS; have hcv := conv_bytes (hS.2) k hkz.out; go_simp; try with_reducible rfl) ?_
        try (first | (rw [put_some]; dsimp only [List.set]) | rw [put_none])
        refine rtake 6 _ (some 32) _ rfl rfl (by kernel_rfl) (by kernel_rfl) (by kernel_rfl) (fun _ _ _ h => h) (by rfl) hHeld (by intro w hS; go_simp; try with_reducible rfl) ?_
        try (first | (rw [put_some]; dsimp only [List.set]) | rw [put_none])
        refine wpAnyH_ready (rs := [7]) (by kernel_rfl) (by simp) (AllReadyH.cons (o := _) rfl (fun K hK => ?_) AllReadyH.nil)
        refine step_alloc (some 7) rfl (by rfl) (.pointer (some ⟨x4.heap.size, 0, none⟩)) (.cells (cavV ⟨false, [], 0, [], []⟩).toArray 51) (by go_simp; try rfl) ?_; intro x7 hx7 hb7; have hlt7 : x4.heap.size < x7.heap.size := (by rw [hx7, World.size_alloc]; exact Nat.lt_succ_self _); have r7 : Row x7 x4.heap.size 51 (cavV ⟨false, [], 0, [], []⟩) := (by rw [hx7]; exact Row.new _ _ _); clear hx7; have hm1 := hm1.later (Nat.le_refl _) hb7; have hm4 := hm4.later (Nat.le_refl _) hb7; have hbs := hbs.trans (hb7.mono hbs.size)
        refine hK.out _ _ ⟨hm1, hm4⟩ (fun _ => ?_)
        clear hK K
        try (first | (rw [put_some]; dsimp only [List.set]) | rw [put_none])
        clear hHeld
        have hHeld := And.intro hm1 hm4
        refine wpAnyH_ready (rs := [8]) (by kernel_rfl) (by simp) (AllReadyH.cons (o := _) rfl (fun K hK => ?_) AllReadyH.nil)
        refine step_store_row none rfl (by rfl) 51 (.tmp 7) (.tmp 32) rfl x4.heap.size 0 51 _ (cavV ⟨true, [], 0, zl, zl⟩) rfl rfl r7 (Nat.le_refl 5) size_cav (fun v hv => cavV_one [⟨true, [], 0, zl, zl⟩] v (by simpa using hv)) ?_; intro x8 r8 hg8; have hm1 := Sl.apart hm1 hg8 (fun hx a ha => by cases ha; show w3.heap.size ≠ x4.heap.size; omega); have hm4 := Sl.apart hm4 hg8 (fun hx a ha => by cases ha; show x1.heap.size ≠ x4.heap.size; omega); have hbF := hbs.grown hg8 hbs.size (fun k h => by cases h; omega)
        refine hK.out _ _ ⟨hm1, hm4⟩ (fun _ => ?_)
        clear hK K
        try (first | (rw [put_some]; dsimp only [List.set]) | rw [put_none])
        refine wpAnyH_done (by kernel_rfl) ?_ _
        refine NoPanic.normal ?_
        go_wp2_with fail
        go_meet
        case rel => exact ⟨_, rfl, r8, hbF⟩
      · refine step_alloc (some 7) rfl (by rfl) (.pointer (some ⟨x1.heap.size, 0, none⟩)) (.cells (cavV ⟨false, [], 0, [], []⟩).toArray 51) (by go_simp; try rfl) ?_; intro x7 hx7 hb7; have hlt7 : x1.heap.size < x7.heap.size := (by rw [hx7, World.size_alloc]; exact Nat.lt_succ_self _); have r7 : Row x7 x1.heap.size 51 (cavV ⟨false, [], 0, [], []⟩) := (by rw [hx7]; exact Row.new _ _ _); clear hx7; have hm1 := hm1.later (Nat.le_refl _) hb7; have hbs := hbs.trans (hb7.mono hbs.size)
        refine hK.out _ _ hm1 (fun _ => ?_)
        clear hK K
        try (first | (rw [put_some]; dsimp only [List.set]) | rw [put_none])
        clear hHeld
        have hHeld := hm1
        refine wpAnyH_ready (rs := [4]) (by kernel_rfl) (by simp) (AllReadyH.cons (o := _) rfl (fun K hK => ?_) AllReadyH.nil)
        refine step_make_bytes (some 30) rfl (by rfl) (.tmp 29) (.tmp 29) rfl k zl hzl.out rfl rfl hk ?_; intro x4 hm4 hlt4 hb4; have hm1 := hm1.later (Nat.le_refl _) hb4; have r7 := r7.later hb4 r7.lt; have hbs := hbs.trans (hb4.mono hbs.size); have hm4 : Sl x4 (some ⟨x7.heap.size, 0, none⟩) k (byts zl) := hm4; have hlt4 : x7.heap.size < x4.heap.size := hlt4
        refine hK.out _ _ hm1 (fun _ => ?_)
        clear hK K
        try (first | (rw [put_some]; dsimp only [List.set]) | rw [put_none])
        refine wpAnyH_narrow (S' := fun w' => Sl w' (some ⟨w3.heap.size, 0, none⟩) k (byts zl) ∧ Sl w' (some ⟨x7.heap.size, 0, none⟩) k (byts zl)) (fun _ h => h.1) _ _ _ _ ?_
        clear hHeld
        have hHeld := And.intro hm1 hm4
        refine rtake 5 _ (some 31) _ rfl rfl (by kernel_rfl) (by kernel_rfl) (by kernel_rfl) (fun _ _ _ h => h) (by rfl) hHeld (by intro w hS; have hcv := conv_bytes (hS.2) k hkz.out; go_simp; try with_reducible rfl) ?_
        try (first | (rw [put_some]; dsimp only [List.set]) | rw [put_none])
        refine rtake 6 _ (some 32) _ rfl rfl (by kernel_rfl) (by kernel_rfl) (by kernel_rfl) (fun _ _ _ h => h) (by rfl) hHeld (by intro w hS; go_simp; try with_reducible rfl) ?_
        try (first | (rw [put_some]; dsimp only [List.set]) | rw [put_none])
        refine wpAnyH_ready (rs := [8]) (by kernel_rfl) (by simp) (AllReadyH.cons (o := _) rfl (fun K hK => ?_) AllReadyH.nil)
        refine step_store_row none rfl (by rfl) 51 (.tmp 7) (.tmp 32) rfl x1.heap.size 0 51 _ (cavV ⟨true, [], 0, zl, zl⟩) rfl rfl r7 (Nat.le_refl 5) size_cav (fun v hv => cavV_one [⟨true, [], 0, zl, zl⟩] v (by simpa using hv)) ?_; intro x8 r8 hg8; have hm1 := Sl.apart hm1 hg8 (fun hx a ha => by cases ha; show w3.heap.size ≠ x1.heap.size; omega); have hm4 := Sl.apart hm4 hg8 (fun hx a ha => by cases ha; show x7.heap.size ≠ x1.heap.size; omega); have hbF := hbs.grown hg8 hbs.size (fun k h => by cases h; omega)
        refine hK.out _ _ ⟨hm1, hm4⟩ (fun _ => ?_)
        clear hK K
        try (first | (rw [put_some]; dsimp only [List.set]) | rw [put_none])
        refine wpAnyH_done (by kernel_rfl) ?_ _
        refine NoPanic.normal ?_
        go_wp2_with fail
        go_meet
        case rel => exact ⟨_, rfl, r8, hbF⟩
    · refine step_make_bytes (some 30) rfl (by rfl) (.tmp 29) (.tmp 29) rfl k zl hzl.out rfl rfl hk ?_; intro x4 hm4 hlt4 hb4; have hbs := hbs.trans (hb4.mono hbs.size); have hm4 : Sl x4 (some ⟨w3.heap.size, 0, none⟩) k (byts zl) := hm4; have hlt4 : w3.heap.size < x4.heap.size := hlt4
      refine hK.out _ _ trivial (fun _ => ?_)
      clear hK K
      try (first | (rw [put_some]; dsimp only [List.set]) | rw [put_none])
      refine wpAnyH_narrow (S' := fun w' => Sl w' (some ⟨w3.heap.size, 0, none⟩) k (byts zl)) (fun _ h => trivial) _ _ _ _ ?_
      clear hHeld
      have hHeld := hm4
      refine rtake 5 _ (some 31) _ rfl rfl (by kernel_rfl) (by kernel_rfl) (by kernel_rfl) (fun _ _ _ h => h) (by rfl) hHeld (by intro w hS; have hcv := conv_bytes (hS) k hkz.out; go_simp; try with_reducible rfl) ?_
      try (first | (rw [put_some]; dsimp only [List.set]) | rw [put_none])
      refine wpAnyH_ready (rs := [1, 7]) (by kernel_rfl) (by simp) (AllReadyH.cons (o := _) rfl (fun K hK => ?_) (AllReadyH.cons (o := _) rfl (fun K hK => ?_) AllReadyH.nil))
      · refine step_make_bytes (some 27) rfl (by rfl) (.tmp 26) (.tmp 26) rfl k zl hzl.out rfl rfl hk ?_; intro x1 hm1 hlt1 hb1; have hm4 := hm4.later (Nat.le_refl _) hb1; have hbs := hbs.trans (hb1.mono hbs.size); have hm1 : Sl x1 (some ⟨x4.heap.size, 0, none⟩) k (byts zl) := hm1; have hlt1 : x4.heap.size < x1.heap.size := hlt1
        refine hK.out _ _ hm4 (fun _ => ?_)
        clear hK K
        try (first | (rw [put_some]; dsimp only [List.set]) | rw [put_none])
        refine wpAnyH_narrow (S' := fun w' => Sl w' (some ⟨w3.heap.size, 0, none⟩) k (byts zl) ∧ Sl w' (some ⟨x4.heap.size, 0, none⟩) k (byts zl)) (fun _ h => h.1) _ _ _ _ ?_
        clear hHeld
        have hHeld := And.intro hm4 hm1
        refine rtake 2 _ (some 28) _ rfl rfl (by kernel_rfl) (by kernel_rfl) (by kernel_rfl) (fun _ _ _ h => h) (by rfl) hHeld (by intro w hS; have hcv := conv_bytes (hS.2) k hkz.out; go_simp; try with_reducible rfl) ?_
        try (first | (rw [put_some]; dsimp only [List.set]) | rw [put_none])
        refine rtake 6 _ (some 32) _ rfl rfl (by kernel_rfl) (by kernel_rfl) (by kernel_rfl) (fun _ _ _ h => h) (by rfl) hHeld (by intro w hS; go_simp; try with_reducible rfl) ?_
        try (first | (rw [put_some]; dsimp only [List.set]) | rw [put_none])
        refine wpAnyH_ready (rs := [7]) (by kernel_rfl) (by simp) (AllReadyH.cons (o := _) rfl (fun K hK => ?_) AllReadyH.nil)
        refine step_alloc (some 7) rfl (by rfl) (.pointer (some ⟨x1.heap.size, 0, none⟩)) (.cells (cavV ⟨false, [], 0, [], []⟩).toArray 51) (by go_simp; try rfl) ?_; intro x7 hx7 hb7; have hlt7 : x1.heap.size < x7.heap.size := (by rw [hx7, World.size_alloc]; exact Nat.lt_succ_self _); have r7 : Row x7 x1.heap.size 51 (cavV ⟨false, [], 0, [], []⟩) := (by rw [hx7]; exact Row.new _ _ _); clear hx7; have hm4 := hm4.later (Nat.le_refl _) hb7; have hm1 := hm1.later (Nat.le_refl _) hb7; have hbs := hbs.trans (hb7.mono hbs.size)
        refine hK.out _ _ ⟨hm4, hm1⟩ (fun _ => ?_)
        clear hK K
        try (first | (rw [put_some]; dsimp only [List.set]) | rw [put_none])
        clear hHeld
        have hHeld := And.intro hm4 hm1
        refine wpAnyH_ready (rs := [8]) (by kernel_rfl) (by simp) (AllReadyH.cons (o := _) rfl (fun K hK => ?_) AllReadyH.nil)
        refine step_store_row none rfl (by rfl) 51 (.tmp 7) (.tmp 32) rfl x1.heap.size 0 51 _ (cavV ⟨true, [], 0, zl, zl⟩) rfl rfl r7 (Nat.le_refl 5) size_cav (fun v hv => cavV_one [⟨true, [], 0, zl, zl⟩] v (by simpa using hv)) ?_; intro x8 r8 hg8; have hm4 := Sl.apart hm4 hg8 (fun hx a ha => by cases ha; show w3.heap.size ≠ x1.heap.size; omega); have hm1 := Sl.apart hm1 hg8 (fun hx a ha => by cases ha; show x4.heap.size ≠ x1.heap.size; omega); have hbF := hbs.grown hg8 hbs.size (fun k h => by cases h; omega)
        refine hK.out _ _ ⟨hm4, hm1⟩ (fun _ => ?_)
        clear hK K
        try (first | (rw [put_some]; dsimp only [List.set]) | rw [put_none])
        refine wpAnyH_done (by kernel_rfl) ?_ _
        refine NoPanic.normal ?_
        go_wp2_with fail
        go_meet
        case rel => exact ⟨_, rfl, r8, hbF⟩
      · refine step_alloc (some 7) rfl (by rfl) (.pointer (some ⟨x4.heap.size, 0, none⟩)) (.cells (cavV ⟨false, [], 0, [], []⟩).toArray 51) (by go_simp; try rfl) ?_; intro x7 hx7 hb7; have hlt7 : x4.heap.size < x7.heap.size := (by rw [hx7, World.size_alloc]; exact Nat.lt_succ_self _); have r7 : Row x7 x4.heap.size 51 (cavV ⟨false, [], 0, [], []⟩) := (by rw [hx7]; exact Row.new _ _ _); clear hx7; have hm4 := hm4.later (Nat.le_refl _) hb7; have hbs := hbs.trans (hb7.mono hbs.size)
        refine hK.out _ _ hm4 (fun _ => ?_)
        clear hK K
        try (first | (rw [put_some]; dsimp only [List.set]) | rw [put_none])
        clear hHeld
        have hHeld := hm4
        refine wpAnyH_ready (rs := [1]) (by kernel_rfl) (by simp) (AllReadyH.cons (o := _) rfl (fun K hK => ?_) AllReadyH.nil)
        refine step_make_bytes (some 27) rfl (by rfl) (.tmp 26) (.tmp 26) rfl k zl hzl.out rfl rfl hk ?_; intro x1 hm1 hlt1 hb1; have hm4 := hm4.later (Nat.le_refl _) hb1; have r7 := r7.later hb1 r7.lt; have hbs := hbs.trans (hb1.mono hbs.size); have hm1 : Sl x1 (some ⟨x7.heap.size, 0, none⟩) k (byts zl) := hm1; have hlt1 : x7.heap.size < x1.heap.size := hlt1
        refine hK.out _ _ hm4 (fun _ => ?_)
        clear hK K
        try (first | (rw [put_some]; dsimp only [List.set]) | rw [put_none])
        refine wpAnyH_narrow (S' := fun w' => Sl w' (some ⟨w3.heap.size, 0, none⟩) k (byts zl) ∧ Sl w' (some ⟨x7.heap.size, 0, none⟩) k (byts zl)) (fun _ h => h.1) _ _ _ _ ?_
        clear hHeld
        have hHeld := And.intro hm4 hm1
        refine rtake 2 _ (some 28) _ rfl rfl (by kernel_rfl) (by kernel_rfl) (by kernel_rfl) (fun _ _ _ h => h) (by rfl) hHeld (by intro w hS; have hcv := conv_bytes (hS.2) k hkz.out; go_simp; try with_reducible rfl) ?_
        try (first | (rw [put_some]; dsimp only [List.set]) | rw [put_none])
        refine rtake 6 _ (some 32) _ rfl rfl (by kernel_rfl) (by kernel_rfl) (by kernel_rfl) (fun _ _ _ h => h) (by rfl) hHeld (by intro w hS; go_simp; try with_reducible rfl) ?_
        try (first | (rw [put_some]; dsimp only [List.set]) | rw [put_none])
        refine wpAnyH_ready (rs := [8]) (by kernel_rfl) (by simp) (AllReadyH.cons (o := _) rfl (fun K hK => ?_) AllReadyH.nil)
        refine step_store_row none rfl (by rfl) 51 (.tmp 7) (.tmp 32) rfl x4.heap.size 0 51 _ (cavV ⟨true, [], 0, zl, zl⟩) rfl rfl r7 (Nat.le_refl 5) size_cav (fun v hv => cavV_one [⟨true, [], 0, zl, zl⟩] v (by simpa using hv)) ?_; intro x8 r8 hg8; have hm4 := Sl.apart hm4 hg8 (fun hx a ha => by cases ha; show w3.heap.size ≠ x4.heap.size; omega); have hm1 := Sl.apart hm1 hg8 (fun hx a ha => by cases ha; show x7.heap.size ≠ x4.heap.size; omega); have hbF := hbs.grown hg8 hbs.size (fun k h => by cases h; omega)
        refine hK.out _ _ ⟨hm4, hm1⟩ (fun _ => ?_)
        clear hK K
        try (first | (rw [put_some]; dsimp only [List.set]) | rw [put_none])
        refine wpAnyH_done (by kernel_rfl) ?_ _
        refine NoPanic.normal ?_
        go_wp2_with fail
        go_meet
        case rel => exact ⟨_, rfl, r8, hbF⟩
    · refine step_alloc (some 7) rfl (by rfl) (.pointer (some ⟨w3.heap.size, 0, none⟩)) (.cells (cavV ⟨false, [], 0, [], []⟩).toArray 51) (by go_simp; try rfl) ?_; intro x7 hx7 hb7; have hlt7 : w3.heap.size < x7.heap.size := (by rw [hx7, World.size_alloc]; exact Nat.lt_succ_self _); have r7 : Row x7 w3.heap.size 51 (cavV ⟨false, [], 0, [], []⟩) := (by rw [hx7]; exact Row.new _ _ _); clear hx7; have hbs := hbs.trans (hb7.mono hbs.size)
      refine hK.out _ _ trivial (fun _ => ?_)
      clear hK K
      try (first | (rw [put_some]; dsimp only [List.set]) | rw [put_none])
      refine wpAnyH_ready (rs := [1, 4]) (by kernel_rfl) (by simp) (AllReadyH.cons (o := _) rfl (fun K hK => ?_) (AllReadyH.cons (o := _) rfl (fun K hK => ?_) AllReadyH.nil))
      · refine step_make_bytes (some 27) rfl (by rfl) (.tmp 26) (.tmp 26) rfl k zl hzl.out rfl rfl hk ?_; intro x1 hm1 hlt1 hb1; have r7 := r7.later hb1 r7.lt; have hbs := hbs.trans (hb1.mono hbs.size); have hm1 : Sl x1 (some ⟨x7.heap.size, 0, none⟩) k (byts zl) := hm1; have hlt1 : x7.heap.size < x1.heap.size := hlt1
        refine hK.out _ _ trivial (fun _ => ?_)
        clear hK K
        try (first | (rw [put_some]; dsimp only [List.set]) | rw [put_none])
        refine wpAnyH_narrow (S' := fun w' => Sl w' (some ⟨x7.heap.size, 0, none⟩) k (byts zl)) (fun _ h => trivial) _ _ _ _ ?_
        clear hHeld
        have hHeld := hm1
        refine rtake 2 _ (some 28) _ rfl rfl (by kernel_rfl) (by kernel_rfl) (by kernel_rfl) (fun _ _ _ h => h) (by rfl) hHeld (by intro w hS; have hcv := conv_bytes (hS) k hkz.out; go_simp; try with_reducible rfl) ?_
        try (first | (rw [put_some]; dsimp only [List.set]) | rw [put_none])
        refine wpAnyH_ready (rs := [4]) (by kernel_rfl) (by simp) (AllReadyH.cons (o := _) rfl (fun K hK => ?_) AllReadyH.nil)
        refine step_make_bytes (some 30) rfl (by rfl) (.tmp 29) (.tmp 29) rfl k zl hzl.out rfl rfl hk ?_; intro x4 hm4 hlt4 hb4; have hm1 := hm1.later (Nat.le_refl _) hb4; have r7 := r7.later hb4 r7.lt; have hbs := hbs.trans (hb4.mono hbs.size); have hm4 : Sl x4 (some ⟨x1.heap.size, 0, none⟩) k (byts zl) := hm4; have hlt4 : x1.heap.size < x4.heap.size := hlt4
        refine hK.out _ _ hm1 (fun _ => ?_)
        clear hK K
        try (first | (rw [put_some]; dsimp only [List.set]) | rw [put_none])
        refine wpAnyH_narrow (S' := fun w' => Sl w' (some ⟨x7.heap.size, 0, none⟩) k (byts zl) ∧ Sl w' (some ⟨x1.heap.size, 0, none⟩) k (byts zl)) (fun _ h => h.1) _ _ _ _ ?_
        clear hHeld
        have hHeld := And.intro hm1 hm4
        refine rtake 5 _ (some 31) _ rfl rfl (by kernel_rfl) (by kernel_rfl) (by kernel_rfl) (fun _ _ _ h => h) (by rfl) hHeld (by intro w hS; have hcv := conv_bytes (hS.2) k hkz.out; go_simp; try with_reducible rfl) ?_
        try (first | (rw [put_some]; dsimp only [List.set]) | rw [put_none])
        refine rtake 6 _ (some 32) _ rfl rfl (by kernel_rfl) (by kernel_rfl) (by kernel_rfl) (fun _ _ _ h => h) (by rfl) hHeld (by intro w hS; go_simp; try with_reducible rfl) ?_
        try (first | (rw [put_some]; dsimp only [List.set]) | rw [put_none])
        refine wpAnyH_ready (rs := [8]) (by kernel_rfl) (by simp) (AllReadyH.cons (o := _) rfl (fun K hK => ?_) AllReadyH.nil)
        refine step_store_row none rfl (by rfl) 51 (.tmp 7) (.tmp 32) rfl w3.heap.size 0 51 _ (cavV ⟨true, [], 0, zl, zl⟩) rfl rfl r7 (Nat.le_refl 5) size_cav (fun v hv => cavV_one [⟨true, [], 0, zl, zl⟩] v (by simpa using hv)) ?_; intro x8 r8 hg8; have hm1 := Sl.apart hm1 hg8 (fun hx a ha => by cases ha; show x7.heap.size ≠ w3.heap.size; omega); have hm4 := Sl.apart hm4 hg8 (fun hx a ha => by cases ha; show x1.heap.size ≠ w3.heap.size; omega); have hbF := hbs.grown hg8 hbs.size (fun k h => by cases h; omega)
        refine hK.out _ _ ⟨hm1, hm4⟩ (fun _ => ?_)
        clear hK K
        try (first | (rw [put_some]; dsimp only [List.set]) | rw [put_none])
        refine wpAnyH_done (by kernel_rfl) ?_ _
        refine NoPanic.normal ?_
        go_wp2_with fail
        go_meet
        case rel => exact ⟨_, rfl, r8, hbF⟩
      · refine step_make_bytes (some 30) rfl (by rfl) (.tmp 29) (.tmp 29) rfl k zl hzl.out rfl rfl hk ?_; intro x4 hm4 hlt4 hb4; have r7 := r7.later hb4 r7.lt; have hbs := hbs.trans (hb4.mono hbs.size); have hm4 : Sl x4 (some ⟨x7.heap.size, 0, none⟩) k (byts zl) := hm4; have hlt4 : x7.heap.size < x4.heap.size := hlt4
        refine hK.out _ _ trivial (fun _ => ?_)
        clear hK K
        try (first | (rw [put_some]; dsimp only [List.set]) | rw [put_none])
        refine wpAnyH_narrow (S' := fun w' => Sl w' (some ⟨x7.heap.size, 0, none⟩) k (byts zl)) (fun _ h => trivial) _ _ _ _ ?_
        clear hHeld
        have hHeld := hm4
        refine rtake 5 _ (some 31) _ rfl rfl (by kernel_rfl) (by kernel_rfl) (by kernel_rfl) (fun _ _ _ h => h) (by rfl) hHeld (by intro w hS; have hcv := conv_bytes (hS) k hkz.out; go_simp; try with_reducible rfl) ?_
        try (first | (rw [put_some]; dsimp only [List.set]) | rw [put_none])
        refine wpAnyH_ready (rs := [1]) (by kernel_rfl) (by simp) (AllReadyH.cons (o := _) rfl (fun K hK => ?_) AllReadyH.nil)
        refine step_make_bytes (some 27) rfl (by rfl) (.tmp 26) (.tmp 26) rfl k zl hzl.out rfl rfl hk ?_; intro x1 hm1 hlt1 hb1; have hm4 := hm4.later (Nat.le_refl _) hb1; have r7 := r7.later hb1 r7.lt; have hbs := hbs.trans (hb1.mono hbs.size); have hm1 : Sl x1 (some ⟨x4.heap.size, 0, none⟩) k (byts zl) := hm1; have hlt1 : x4.heap.size < x1.heap.size := hlt1
        refine hK.out _ _ hm4 (fun _ => ?_)
        clear hK K
        try (first | (rw [put_some]; dsimp only [List.set]) | rw [put_none])
        refine wpAnyH_narrow (S' := fun w' => Sl w' (some ⟨x7.heap.size, 0, none⟩) k (byts zl) ∧ Sl w' (some ⟨x4.heap.size, 0, none⟩) k (byts zl)) (fun _ h => h.1) _ _ _ _ ?_
        clear hHeld
        have hHeld := And.intro hm4 hm1
        refine rtake 2 _ (some 28) _ rfl rfl (by kernel_rfl) (by kernel_rfl) (by kernel_rfl) (fun _ _ _ h => h) (by rfl) hHeld (by intro w hS; have hcv := conv_bytes (hS.2) k hkz.out; go_simp; try with_reducible rfl) ?_
        try (first | (rw [put_some]; dsimp only [List.set]) | rw [put_none])
        refine rtake 6 _ (some 32) _ rfl rfl (by kernel_rfl) (by kernel_rfl) (by kernel_rfl) (fun _ _ _ h => h) (by rfl) hHeld (by intro w hS; go_simp; try with_reducible rfl) ?_
        try (first | (rw [put_some]; dsimp only [List.set]) | rw [put_none])
        refine wpAnyH_ready (rs := [8]) (by kernel_rfl) (by simp) (AllReadyH.cons (o := _) rfl (fun K hK => ?_) AllReadyH.nil)
        refine step_store_row none rfl (by rfl) 51 (.tmp 7) (.tmp 32) rfl w3.heap.size 0 51 _ (cavV ⟨true, [], 0, zl, zl⟩) rfl rfl r7 (Nat.le_refl 5) size_cav (fun v hv => cavV_one [⟨true, [], 0, zl, zl⟩] v (by simpa using hv)) ?_; intro x8 r8 hg8; have hm4 := Sl.apart hm4 hg8 (fun hx a ha => by cases ha; show x7.heap.size ≠ w3.heap.size; omega); have hm1 := Sl.apart hm1 hg8 (fun hx a ha => by cases ha; show x4.heap.size ≠ w3.heap.size; omega); have hbF := hbs.grown hg8 hbs.size (fun k h => by cases h; omega)
        refine hK.out _ _ ⟨hm4, hm1⟩ (fun _ => ?_)
        clear hK K
        try (first | (rw [put_some]; dsimp only [List.set]) | rw [put_none])
        refine wpAnyH_done (by kernel_rfl) ?_ _
        refine NoPanic.normal ?_
        go_wp2_with fail
        go_meet
        case rel => exact ⟨_, rfl, r8, hbF⟩
  case rest =>
  obtain ⟨g7, rfl, r7, hb7⟩ := hcut
  have hbw7 := hb3.trans (hb7.mono hb3.size)
  have cv := r7.cell
  have c0 : wc.cell? ⟨g7, 0, none⟩ = some (.bool true) := cv 0
  have c1 : wc.cell? ⟨g7, 1, none⟩ = some (.string { data := #[] }) := cv 1
  have c2 : wc.cell? ⟨g7, 2, none⟩ = some (.int .u64 0) := cv 2
  have c3 : wc.cell? ⟨g7, 3, none⟩ = some (.string (bstr zl)) := cv 3
  have c4 : wc.cell? ⟨g7, 4, none⟩ = some (.string (bstr zl)) := cv 4
  clear cv
  go_wp2_with (with_reducible refine wpList_store_row rfl 27 (.tmp 8) (.tmp 36) rfl (wc.heap.size + 1) _ rfl rfl 27 _ (heap_alloc2_new wc _ _) (by kernel_rfl) (by kernel_rfl) (by kernel_rfl) ?_; refine Hid.out ?_)
  refine Lib.hid ?_
  generalize hw9 : World.setRow _ _ _ = w9
  obtain ⟨r8, r9, hb9⟩ := row_new_set2 (old1 := [Value.bool true, .string { data := #[] }, .int .u64 0, .string (bstr zl), .string (bstr zl), .bool true, .string { data := #[] }, .int .u64 0, .string (bstr zl), .string (bstr zl)]) (xs := [Value.int .u64 0, .string { data := #[] }, .slice (some ⟨wc.heap.size, 0, none⟩) 2 2, .bool false, .int .u8 0, .int .u8 0, .int .u8 0, .int .u8 0, .int .u8 0, .int .u8 0, .int .u8 0, .int .u8 0, .int .u8 0, .int .u8 0, .int .u8 0, .int .u8 0, .int .u8 0, .int .u8 0, .int .u8 0, .int .u8 0, .int .u8 0, .int .u8 0, .int .u8 0, .int .u8 0, .int .u8 0, .int .u8 0, .int .u8 0, .int .u8 0, .int .u8 0, .int .u8 0, .int .u8 0, .int .u8 0, .int .u8 0, .int .u8 0, .int .u8 0, .int .u8 0]) hw9
  have hbw9 := hbw7.trans (hb9.mono hbw7.size)
  have eV : [Value.int .u64 0, .string { data := #[] }, .slice (some ⟨wc.heap.size, 0, none⟩) 2 2, .bool false, .int .u8 0, .int .u8 0, .int .u8 0, .int .u8 0, .int .u8 0, .int .u8 0, .int .u8 0, .int .u8 0, .int .u8 0, .int .u8 0, .int .u8 0, .int .u8 0, .int .u8 0, .int .u8 0, .int .u8 0, .int .u8 0, .int .u8 0, .int .u8 0, .int .u8 0, .int .u8 0, .int .u8 0, .int .u8 0, .int .u8 0, .int .u8 0, .int .u8 0, .int .u8 0, .int .u8 0, .int .u8 0, .int .u8 0, .int .u8 0, .int .u8 0, .int .u8 0] = tokV (tokL k) (some ⟨wc.heap.size, 0, none⟩) 2 := by kernel_rfl
  have hcv9 : Cvs w9 (tokL k, some ⟨wc.heap.size, 0, none⟩, 2) := by
    have ec : ([cavK k, cavK k] : List Cav).flatMap cavV = [Value.bool true, .string { data := #[] }, .int .u64 0, .string (bstr zl), .string (bstr zl), .bool true, .string { data := #[] }, .int .u64 0, .string (bstr zl), .string (bstr zl)] := by rw [hzl.out]; rfl
    show Sl w9 _ (2 * 5) (([cavK k, cavK k] : List Cav).flatMap cavV)
    rw [ec]
    exact ⟨Rd.block r8, Nat.le_refl _, fun h => by cases h⟩
  have hlc := r8.lt
  have hl9 := length_tokV (tokL_ok k) (some ⟨wc.heap.size, 0, none⟩) 2
  have ho9 := tokV_one (tokL k) (some ⟨wc.heap.size, 0, none⟩) 2
  rw [eV] at r9
  obtain ⟨V9, hV9⟩ : ∃ V, V = tokV (tokL k) (some ⟨wc.heap.size, 0, none⟩) 2 := ⟨_, rfl⟩
  rw [← hV9] at r9 hl9 ho9
  have HV9 := Lib.hid hV9
  have HL9 := Lib.hid hl9
  have HO9 := Lib.hid ho9
  have hz9 := Lib.hid (show (Try.prog.info? 27).map (·.size) = some V9.toArray.size by rw [size_tok, List.size_toArray, hl9])
  have R9 := Lib.hid (show w9.heap[wc.heap.size + 1]? = some (.cells V9.toArray 27 (0, 0)) from r9)
  have hbuild := Lib.hid (build_bun V9 hl9)
  obtain ⟨V10, hV10⟩ : ∃ V, V = V9 ++ [Value.slice none 0 0] := ⟨_, rfl⟩
  have hl10 : V10.length = 37 := by rw [hV10, List.length_append, hl9]; rfl
  have ho10 : ∀ v ∈ V10, v.oneCell' = true := fun v hv => by
    rw [hV10] at hv
    rcases List.mem_append.1 hv with h | h
    · exact ho9 v h
    · rw [List.mem_singleton.1 h]; rfl
  rw [← hV10] at hbuild
  have HV10 := Lib.hid (show V10 = bunV (tokL k) (some ⟨wc.heap.size, 0, none⟩) 2 none 0 0 by rw [hV10, hV9]; rfl)
  have hz10 := Lib.hid (show (Try.prog.info? 30).map (·.size) = some V10.toArray.size by rw [size_bun, List.size_toArray, hl10])
  have h37 := Lib.hid (show 37 = V10.toArray.size by rw [List.size_toArray, hl10])
  have hone10 := Lib.hid (all_one ho10)
  clear hw9 eV hV9 hl9 ho9 hV10 hl10 ho10 c0 c1 c2 c3 c4 r7 r8 hb9 hb7 hbw7
  go_wp2_with (first
    | (with_reducible refine wpList_load_row rfl 27 (.tmp 8) rfl (wc.heap.size + 1) rfl 27 V9.toArray (0, 0) _ R9.out Try.underlying27 rfl hz9.out ?_)
    | (refine wpList_build1 rfl 30 0 (.tmp 37) rfl (.agg V9.toArray) _ rfl (hbuild.out _) ?_)
    | (with_reducible refine wpList_store_row rfl 30 (.tmp 9) (.tmp 38) rfl w9.heap.size V10.toArray rfl rfl 30 _ (heap_alloc_new w9 _) hz10.out (Eq.trans (by kernel_rfl) h37.out) hone10.out ?_; refine Hid.out ?_))
  refine Lib.hid ?_
  generalize hwA : World.setRow _ _ _ = wA
  obtain ⟨rA, hbA⟩ := row_new_set (xs := V10) hwA
  rw [HV10.out] at rA
  have hbwA := hbw9.trans (hbA.mono hbw9.size)
  have hcvA := hcv9.later (Nat.le_refl _) hbA
  have hat0 : BunAt wA 0 wA.heap.size w9.heap.size ⟨tokL k, []⟩ := BunAt.start rA hcvA (fun hp a ha => by cases ha; exact ⟨Nat.zero_le _, by show wc.heap.size ≠ w9.heap.size; omega⟩)
  have hlg := rA.lt
  have r9A := r9.later hbA r9.lt
  have hlt9 := r9.lt
  have HGW := Lib.hid (show w.heap.size ≤ w9.heap.size from hbw9.size)
  clear hwA rA hbA hbuild hcv9 R9 r9 hbw9
  generalize wc.heap.size = gc at *
  generalize w9.heap.size = g at *
  obtain ⟨i0, hi, hz0, hz1, hz2⟩ := info_tok
  obtain ⟨iu, hiu, hu0, hu1, hu2⟩ := info_parts infoByte
  have HK2 := Lib.hid hk2
  clear hk2
  go_wp2_with fail
  go_loopw [40] (fun i wr => ∃ j : Nat, j ≤ n ∧ i = .int .i64 j ∧ BunAt wr 0 wA.heap.size g ⟨tokL k, List.replicate j (tokL k)⟩ ∧ wA.grownBy wr (some g)) (fun i _ => n - (intOf i).toNat)
  case atStart => exact ⟨0, by omega, rfl, hat0, grown_refl _ _⟩
  case round =>
    clear hat0
    obtain ⟨j, hj, rfl, hat, hgr⟩ := hrel
    have r9r : Row wr (gc + 1) 27 V9 := r9A.grown hgr (by omega)
    have hcvr : Cvs wr (tokL k, some ⟨gc, 0, none⟩, 2) := Sl.apart hcvA hgr (fun _ a ha => by cases ha; show gc ≠ g; omega)
    by_cases hlt : j < n
    · obtain ⟨A9, c9, B9, d9, ds, hds, rG, own9, hcv9⟩ := hat
      have HBL := Lib.hid (show ∀ p, B9 = some p → wA.heap.size ≤ p.block from fun p hp => (own9.lt p.block (by rw [hp]; rfl)).1)
      have HDS := Lib.hid hds
      have hdl : ds.length = j := by rw [← toks_len ds, hds]; exact List.length_replicate
      have n1 : ds.length + 1 ≤ maxLen := by unfold maxLen; omega
      have n2 : (ds.length + 1) * 88 ≤ 140737488355328 := by omega
      have hcg : wr.cell? ⟨g, 36, none⟩ = some (.slice B9 ds.length d9) := row_bun_dis (tokL_ok k) rG
      have hbo := Lib.hid (build_one V9 HL9.out)
      have hb10 := (Below.refl wr.heap.size wr).alloc (Nat.le_refl _) (.cells V9.toArray 27)
      have own10 := ownk_later own9 hb10 (Nat.le_refl _)
      have rG10 := rG.later hb10 rG.lt
      have hcv10 : ∀ e ∈ (tokL k, A9, c9) :: ds, Cvs (wr.alloc (.cells V9.toArray 27)) e ∧ Apart 0 g B9 e := fun e he => ⟨(hcv9 e he).1.later (Nat.le_refl _) hb10, (hcv9 e he).2⟩
      have hdd10 : Cvs (wr.alloc (.cells V9.toArray 27)) (tokL k, some ⟨gc, 0, none⟩, 2) ∧ Apart 0 g B9 (tokL k, some ⟨gc, 0, none⟩, 2) := by
        refine ⟨hcvr.later (Nat.le_refl _) hb10, fun hp a ha => ?_⟩
        cases ha
        refine ⟨Nat.zero_le _, by show gc ≠ g; omega, fun p hpB => ?_⟩
        have h3 := HBL.out p hpB
        show p.block ≠ gc
        omega
      have hl10 := tok_sl wr V9
      rw [HL9.out] at hl10
      have hbase : wA.heap.size ≤ (wr.alloc (.cells V9.toArray 27)).heap.size := Nat.le_trans hgr.size hb10.size
      have RR := Lib.hid (show wr.heap[gc + 1]? = some (.cells V9.toArray 27 (0, 0)) from r9r)
      have HHG := Lib.hid hlg
      have HJ := Lib.hid (show List.replicate (j + 1) (tokL k) = List.replicate j (tokL k) ++ [tokL k] from List.replicate_succ' ..)
      have HDL := Lib.hid hdl
      clear hds own9 rG hcv9 r9r hcvr hdl
      go_wp2_with (first
        | (with_reducible refine wpList_load_row rfl 27 (.tmp 8) rfl (gc + 1) rfl 27 V9.toArray (0, 0) _ RR.out Try.underlying27 rfl hz9.out ?_)
        | (refine wpList_slice1 rfl 28 1 0 (.tmp 44) rfl (.agg V9.toArray) _ rfl (hbo.out _) ?_)
        | (at_builtin; refine wpList_append_one rfl (.tmp 43) (.tmp 45) 28 rfl wA.heap.size 27 i0 _ 36 88 Try.underlying28 hi hz0 hz1 (by omega) hz2 rfl _ ds.length (ds.flatMap disV) rfl own10 ⟨wr.heap.size, 0, none⟩ 1 V9 rfl HL9.out (by rw [Nat.one_mul]; exact hl10) HO9.out n1 n2 hbase ?_; intro v11 w11 own11 hg11 hnew11; obtain ⟨B11, d11, rfl, _, _⟩ := Sl.of_ownk own11; obtain ⟨hat11, hc11, hf11⟩ := bunAt_append (tokL_ok k) HHG.out rG10 own10 hcv10 hdd10 (by rw [HV9.out] at own11; exact own11) hg11 hnew11; have hgr11 := grown_own (grown_trans hgr (grown_of_below hb10 _)) hg11 (fun k hk => (own10.lt k hk).1); clear own11 hg11 hnew11))
      have hgrF := grown_trans hgr11 (grown_setCell w11 g 36 (.slice B11 (ds.length + 1) d11))
      rw [HDS.out, ← HJ.out] at hat11
      go_roundw
      case rel => exact ⟨j + 1, by omega, by go_num, hat11, hgrF⟩
      case measure => simp [intOf]; omega
    · obtain rfl : j = n := by omega
      have hk2 := HK2.out
      have hbwr : Below w.heap.size w wr := hbwA.grown hgr hbwA.size (fun k h => by cases h; have := HGW.out; omega)
      have hok := bunN_ok j k
      have hfit := bunN_fit (n := j) hk2 (by omega)
      obtain ⟨VX, rX, hlX, honX, hbX⟩ := BunAt.bunV (b := bunN j k) hat hok (Nat.zero_le _)
      have RX := Lib.hid (show wr.heap[g]? = some (.cells VX.toArray 30 (0, 0)) from rX)
      have hzX := Lib.hid (show (Try.prog.info? 30).map (·.size) = some VX.toArray.size by rw [size_bun, List.size_toArray, hlX])
      have hen := Lib.hid (fun w' (h : BunV 0 (bunN j k) w' (.agg VX.toArray)) => benc_vo hok hfit (bunN_len hk2) h)
      have hre := Lib.hid (fun w' (h : BunV 0 (bunN j k) w' (.agg VX.toArray)) => rbenc_vo hok (bunN_len hk2) h)
      have herr := bunN_err (n := j) hk2
      have hE := encB_len (bunN j k)
      obtain ⟨E, hEq⟩ : ∃ E, E = encB (bunN j k) := ⟨_, rfl⟩
      obtain ⟨er, heq⟩ : ∃ e, e = errB (bunN j k) := ⟨_, rfl⟩
      rw [← hEq, ← heq] at hen hre
      rw [← hEq] at hE
      rw [← heq] at herr
      obtain ⟨zq, hzqq⟩ : ∃ zq : List UInt8, zq = List.replicate 65537 0 := ⟨_, rfl⟩
      have hzql : zq.length = 65537 := by rw [hzqq]; exact List.length_replicate
      have HZQ := Lib.hid hzqq
      have hdz := Lib.hid (show ∀ A c w1, Sl w1 A c (byts zq) → Calls Try.prog 10 #[.slice A 65537 c] w1 fun e w' => ∃ v, e = .returned (.tuple #[v, .int .i64 3]) ∧ BunV (w1.heap.size + 1) zeroB w' v ∧ Below w1.heap.size w1 w' from fun A c w1 h => by
        have h1 := bdec_any A 65537 c zq w1 h hzql.symm (by omega)
        rw [(errD_long hzql).1, (errD_long hzql).2] at h1
        exact h1)
      obtain ⟨m, hm⟩ : ∃ m, m = 65537 - E.length := ⟨_, rfl⟩
      have hM : (65537 : Int) - (E.length : Int) = (m : Int) := by omega
      have hsl2 : (E ++ List.replicate m 0).length = 65537 := by rw [List.length_append, List.length_replicate]; omega
      have hd2 := Lib.hid (show ∀ A c w1, Sl w1 A c (byts (E ++ List.replicate m 0)) → Calls Try.prog 10 #[.slice A (E.length + m) c] w1 fun e w' => ∃ v, e = .returned (.tuple #[v, .int .i64 3]) ∧ BunV (w1.heap.size + 1) zeroB w' v ∧ Below w1.heap.size w1 w' from fun A c w1 h => by
        have h1 := bdec_any A (E.length + m) c (E ++ List.replicate m 0) w1 h (by rw [hsl2]; omega) (by omega)
        rw [(errD_long hsl2).1, (errD_long hsl2).2] at h1
        exact h1)
      have hm0 : 0 < m := by omega
      have hm1 : E.length + m ≤ maxLen := by unfold maxLen; omega
      have hm2 : (E.length + m) * 1 ≤ 140737488355328 := by omega
      have HBZ := Lib.hid (show byts E ++ List.replicate m (Value.int .u8 0) = byts (E ++ List.replicate m 0) by rw [byts_append, byts_zeros])
      have hEi : (E.length : Int) ≤ 65536 := by omega
      have tok1 : True := trivial
      have tok2 : True := trivial
      have HM0 := Lib.hid hm0
      have HM1 := Lib.hid hm1
      have HM2 := Lib.hid hm2
      clear hat r9r hcvr r9A hcvA hlX honX rX hk2 hok hfit hEq heq hzqq hzql hm hsl2 hlt hj hgr hm0 hm1 hm2
      have herr2 : decide ((j : Int) ≤ 16) = (er != 1) := by rw [← herr]; exact decide_eq_decide.2 (by omega)
      clear herr
      go_wp2_with (first
        | (with_reducible refine wpList_load_row rfl 30 (.tmp 9) rfl g rfl 30 VX.toArray (0, 0) _ RX.out Try.underlying30 rfl hzX.out ?_)
        | (go_at_call 8; refine (hen.out _ hbX).mono ?_; rintro e w4 ⟨B4, d4, rfl, hown4, hb4⟩; have hbw4 := hbwr.trans (hb4.mono hbwr.size); have hbX4 := hbX.later hb4; have hown4L := Lib.hid (show ∀ p, Value.ownBlock (.slice B4 E.length d4) = some p → wr.heap.size ≤ p ∧ p < w4.heap.size from fun p hp => hown4.lt p hp); have RX := Lib.hid (show w4.heap[g]? = some (.cells VX.toArray 30 (0, 0)) from Row.later (show Row wr g 30 VX from RX.out) hb4 (Row.lt RX.out)))
        | (go_at_call 9; refine (hre.out _ hbX4).mono ?_; rintro e w5 ⟨B5, d5, rfl, hown5, hb5⟩; have hbw5 := hbw4.trans (hb5.mono hbw4.size); have hown45 := own_later hown4 hb5 (Nat.le_refl _))
        | (at_make; refine wpList_make_bytes rfl _ _ rfl 65537 _ zq HZQ.out rfl rfl rfl (by omega) ?_; intro w6 hsl6 hb6; have hbw6 := hbw5.trans (hb6.mono hbw5.size); have hown46 := own_later hown45 hb6 (Nat.le_refl _); have hown56 := own_later hown5 hb6 (Nat.le_refl _))
        | (go_at_call 10; have _t := tok1; refine (hdz.out _ _ _ hsl6).mono ?_; rintro e w7 ⟨v7, rfl, hv7, hb7⟩; have hbw7 := hbw6.trans (hb7.mono hbw6.size); have hown47 := own_later hown46 hb7 (Nat.le_refl _); have hown57 := own_later hown56 hb7 (Nat.le_refl _); obtain ⟨V7, rfl, hlV7, hoV7, _⟩ := hv7.cells zeroB_ok; have hzV7 := Lib.hid (show (Try.prog.info? 30).map (·.size) = some V7.toArray.size by rw [size_bun, List.size_toArray, hlV7]); have hzlV7 := Lib.hid (show (Try.prog.info? 30).map (·.size) = some V7.length by rw [size_bun, hlV7]); have h37V7 := Lib.hid (show 37 = V7.toArray.size by rw [List.size_toArray, hlV7]); have honeV7 := Lib.hid (all_one hoV7); clear hlV7 hoV7; clear tok1)
        | (with_reducible refine wpList_store_row rfl 30 (.tmp 14) (.tmp 62) rfl w7.heap.size V7.toArray rfl rfl 30 _ (heap_alloc_new w7 _) hzV7.out (Eq.trans (by kernel_rfl) h37V7.out) honeV7.out ?_; refine Hid.out ?_))
      refine Lib.hid ?_
      generalize hw8 : World.setRow _ _ _ = w8
      obtain ⟨r8, hb8⟩ := row_new_set (xs := V7) hw8
      have hbw8 := hbw7.trans (hb8.mono hbw7.size)
      have hown4 := own_later hown47 hb8 (Nat.le_refl _)
      have hown5 := own_later hown57 hb8 (Nat.le_refl _)
      have HB4 := Lib.hid (show ∀ p, Value.ownBlock (.slice B4 E.length d4) = some p → wr.heap.size ≤ p ∧ p < w4.heap.size from fun p hp => ⟨(hown4L.out p hp).1, (hown4L.out p hp).2⟩)
      have hbase : wr.heap.size ≤ w8.heap.size := by
        have h1 := hb4.size; have h2 := hb5.size; have h3 := hb6.size; have h4 := hb7.size; have h5 := hb8.size
        omega
      have hm0 := HM0.out
      have hm1 := HM1.out
      have hm2 := HM2.out
      clear hw8 r8 hown45 hown46 hown47 hown56 hown57 hsl6 hb4 hb5 hb6 hb7 hb8 hv7 RX hbX hbX4 hbw4 hbw5 hbw6 hbw7
      go_wp2_with (first
        | (at_builtin; go_loud (refine wpList_append_zeros_any rfl (.tmp 65) (.tmp 68) 31 3 rfl wr.heap.size 5 iu .u8 .i64 .i64 1 Try.underlying31 Try.underlying3 hiu hu0 hu1 hu2 B4 E.length d4 m _ (byts E) rfl rfl rfl hown4 hm0 hm1 hm2 hbase ?_; intro v9 w10 hown10 hsl10 hgr10; rw [HBZ.out] at hown10; obtain ⟨A10, c10, rfl, _, hslA⟩ := Sl.of_own hown10; have hbw10 := hbw8.grown hgr10 hbw8.size (fun p hp => Nat.le_trans hbwr.size (HB4.out p hp).1); have hsl5 := (sl_own hown5).apartO hgr10 (fun a ha e => by have h1 := (HB4.out _ e).2; have h2 := ownk_fresh hown5 a ha; omega)))
        | (go_at_call 10; have _t := tok2; refine (hd2.out _ _ _ hslA).mono ?_; rintro e w11 ⟨v11, rfl, hv11, hb11⟩; have hbw11 := hbw10.trans (hb11.mono hbw10.size); have hsl10 := hsl10.later (Nat.le_refl _) hb11; have hsl5 := hsl5.later (Nat.le_refl _) hb11; obtain ⟨V11, rfl, hlV11, hoV11, _⟩ := hv11.cells zeroB_ok; have hzV11 := Lib.hid (show (Try.prog.info? 30).map (·.size) = some V11.toArray.size by rw [size_bun, List.size_toArray, hlV11]); have hzlV11 := Lib.hid (show (Try.prog.info? 30).map (·.size) = some V11.length by rw [size_bun, hlV11]); have h37V11 := Lib.hid (show 37 = V11.toArray.size by rw [List.size_toArray, hlV11]); have honeV11 := Lib.hid (all_one hoV11); clear hlV11 hoV11; clear tok2)
        | (with_reducible refine wpList_store_row rfl 30 (.tmp 16) (.tmp 71) rfl w11.heap.size V11.toArray rfl rfl 30 _ (heap_alloc_new w11 _) hzV11.out (Eq.trans (by kernel_rfl) h37V11.out) honeV11.out ?_; refine Hid.out ?_))
      refine Lib.hid ?_
      generalize hwF : World.setRow _ _ _ = wF
      obtain ⟨rF, hbF⟩ := row_new_set (xs := V11) hwF
      have hbwF := hbw11.trans (hbF.mono hbw11.size)
      have hcvE := conv_bytes (hsl10.later (Nat.le_refl _) hbF) E.length rfl
      have hcvG := conv_bytes (hsl5.later (Nat.le_refl _) hbF) E.length rfl
      clear hwF rF hbF
      cases hq : (er != 1)
      all_goals (
        rw [hq] at herr2
        go_wp2
        go_ret
        exact ⟨rfl, hbwF⟩)
end Go.Proofs.Ythiebbhooigogaa

namespace Go.Proofs.Ythiebbhooigogaa.bundleLong
open Go.ChangeShapes Go.WideShapes Go.ChangeAt Go.RowKit

set_option maxRecDepth 100000 in
theorem contract (H : Type) (enc : TypeId × Value → H) (W : World) (base : Nat) (args : Array Value) (ds gs : List (DataW H)) (before : List MemPlace)
    (hval : ∀ (j : Nat) t v, Try.f5.params[j]? = some t → args[j]? = some v → Value.okWide Try.prog W .any base t v)
    (hW : DataW.Whole enc Try.prog Try.f5.params.toList Rows.bundleLongSpec.vars false W args.toList ds gs before) :
    Calls Try.prog 5 args W fun e W' => ∃ v, e = .returned v ∧ Rows.bundleLongSpec.post enc Try.prog Try.f5 false true false false W args v W' := by
  have hW' := hW
  obtain ⟨p, q, hA0, hV, rfl, hfz, hnd⟩ := hW
  have hA : DataW.TrodAll enc Try.prog W 0 (fun _ => true) true Try.f5.params.toList args.toList ds p := hA0
  rw [Try.params5] at hA hval
  obtain ⟨v0, vs0, d0, ds0, p0, q0, hargs, rfl, rfl, h0, r0⟩ := trodAll_cons hA
  obtain ⟨v1, vs1, d1, ds1, p1, q1, rfl, rfl, rfl, h1, r1⟩ := trodAll_cons r0
  obtain ⟨rfl, rfl, rfl⟩ := trodAll_nil r1
  obtain rfl : args = #[v0, v1] := by cases args; simp_all
  obtain ⟨rfl, rfl⟩ := trodVars_none hV
  have k0 := h0
  have lt0 : ∀ x ∈ p0, x.block < W.heap.size := by obtain ⟨m, hm⟩ := k0; exact DataW.trod_lt m _ _ _ hm
  have k1 := h1
  have lt1 : ∀ x ∈ p1, x.block < W.heap.size := by obtain ⟨m, hm⟩ := k1; exact DataW.trod_lt m _ _ _ hm
  obtain ⟨a0, rfl, rfl, rfl, w0⟩ := open_int Try.underlying49 (hval 0 49 v0 rfl rfl) h0
  have b0 := bounds_u16 w0
  obtain ⟨m0, rfl⟩ := Int.eq_ofNat_of_zero_le b0.1
  obtain ⟨a1, rfl, rfl, rfl, w1⟩ := open_int Try.underlying49 (hval 1 49 v1 rfl rfl) h1
  have b1 := bounds_u16 w1
  obtain ⟨m1, rfl⟩ := Int.eq_ofNat_of_zero_le b1.1
  refine (blong_walk m0 m1 (by omega) (by omega) W).mono fun e W' ⟨he, bel⟩ => ?_
  subst he
  exact ⟨_, rfl, _, _, _, [], _, [], hW', trodAll_mk1 (shut_bool Try.underlying4 _), (trodAll_cons_mk (Below.trod laidOut (by kernel_rfl) (of_decide_eq_true (by kernel_rfl)) k0 bel lt0) (trodAll_cons_mk (Below.trod laidOut (by kernel_rfl) (of_decide_eq_true (by kernel_rfl)) k1 bel lt1) trodAll_mk0)), rfl, bel.frame _, fun h => by cases h⟩
theorem reads (os : Os) {H : Type} (enc : TypeId × Value → H) : ∃ places, DataW.whole enc Try.prog ((bareWorld os).forCall (fun _ _ => 0) ⟨#[], #[.int .u16 0, .int .u16 0], []⟩).memory Try.f5.params.toList Rows.bundleLongSpec.vars false (#[.int .u16 0, .int .u16 0] : Array Value).toList 8 = some ([.lit (.int .u16 0), .lit (.int .u16 0)], [], places) :=
  ⟨[], by kernel_rfl⟩
set_option maxRecDepth 100000 in
theorem lifted (os : Os) (started : os.Started) (H : Type) (enc : TypeId × Value → H) (F : Stop.Interp) :
    ReturnsInHanded {} Try.checked os 5 .any ((OpenSpec.ofChange Rows.bundleLongSpec).preRow enc Try.prog Try.f5 Rows.bundleLongRow.domain false Rows.bundleLongRow.laid) (((OpenSpec.ofChange Rows.bundleLongSpec).at F).post enc Try.prog Try.f5 false true false false) := by
  obtain ⟨places, hx⟩ := reads os enc
  refine returnsInHanded_of_row (C := Try.checked) (s := OpenSpec.ofChange Rows.bundleLongSpec) own started (by kernel_rfl) Try.func5
    (witness_row_at (enc := enc) (C := Try.checked) false (bareWorld os) #[.int .u16 0, .int .u16 0] rfl (by kernel_rfl) (by kernel_rfl) (by kernel_rfl)
      (OpenSpec.preRow_of_cond 8 hx (by kernel_rfl) (fun k hk => by cases hk) (by kernel_rfl) (laidMet_nil _ _))) ?_
  intro W base args ds gs before hval hW _ _ _ _ _ _
  exact contract H enc W base args ds gs before hval hW
theorem said : Rows.BundleLongSaid :=
  OpenClaim.holds_of_cond 5 Try.f5 rfl rfl rfl rfl rfl rfl rfl ⟨rfl, rfl, rfl, rfl, rfl⟩ rfl rfl rfl rfl rfl (by kernel_rfl) Try.func5 (by kernel_rfl)
    (of_decide_eq_true (by kernel_rfl)) (by unfold Func.isWrapper; first | (rw [if_pos (by decide +kernel)]; kernel_rfl) | (rw [if_neg (by decide +kernel)]; exact ⟨rfl, rfl⟩))
    (fun os started H enc _ F => by rw [OpenClaim.pre_eq_preRow]; exact lifted os started H enc F)
end Go.Proofs.Ythiebbhooigogaa.bundleLong
