/- LAYER 1, WordBytes: the walk of the law. -/
import Derived.Test.YtildfmadggmdaaaDoorB1
import Derived.Deep.RegionHeld3
import Derived.Laws.BytesString
namespace Go.Proofs.YtildfmadggmdaaaDoor
open Go.RowKit

def bstr (l : List UInt8) : ByteArray := ⟨l.toArray⟩
theorem foldl_push (l : List UInt8) (s : ByteArray) : (l.map fun b => (b.toNat : Int)).foldl (fun r n => r.push (UInt8.ofNat n.toNat)) s = ⟨s.data ++ l.toArray⟩ := by
  induction l generalizing s with
  | nil => simp
  | cons b l ih =>
    rw [List.map_cons, List.foldl_cons, ih]
    simp [ByteArray.push]
/-- Bytes turned into a string. -/
theorem conv_bytes {w : World} {A : Option Addr} {c : Nat} {l : List UInt8} (h : Sl w A c (byts l)) (n : Nat) (hn : n = l.length) :
    (convert 32 9 (.slice A n c)).run Tryd.prog w = .ok (.string (bstr l)) w := by
  subst hn
  rw [run_convert_bytes_string w _ _ 5 A l.length c Tryd.underlying32 Tryd.underlying5 Tryd.underlying9]
  cases A with
  | none =>
    have hc := h.bare rfl
    have hr := h.room
    rw [length_byts] at hr
    obtain rfl : l = [] := List.eq_nil_of_length_eq_zero (by omega)
    rfl
  | some ad =>
    have e : byts l = (l.map fun b => (b.toNat : Int)).map (Value.int .u8) := by unfold byts; simp
    have hld : (loadCells ad l.length).run Tryd.prog w = .ok ((l.map fun b => (b.toNat : Int)).map (Value.int .u8)).toArray w := by
      have := run_loadCells_list (P := Tryd.prog) w ad (byts l) h.rd.at_add
      rw [length_byts, e] at this
      exact this
    rw [run_bytesToString w ad l.length c _ hld, foldl_push]
    simp [bstr]
theorem getV_word (x : BitVec 32) : getV (bytesL x) = u x := by
  unfold getV bytesL
  simp only [List.getD_cons_zero, List.getD_cons_succ, UInt8.toNat_ofNat']
  unfold u
  have := x.isLt
  omega
theorem get_at (A : Option Addr) (n c : Nat) (l : List UInt8) (w : World) (hl : Sl w A c (byts l)) (hn : n = l.length) (h : l.length ≤ 1000000) :
    Calls Tryd.prog 23 #[.slice A n c] w fun e w' => e = .returned (.int .u32 (getV l)) ∧ Below w.heap.size w w' := by
  subst hn; exact get_any A c l w hl h
theorem sl_of_own {w : World} {base t n g cap : Nat} {xs : List Value} (h : w.ownsRow base t 1 (.slice (some ⟨g, 0, none⟩) n cap) n xs) : Sl w (some ⟨g, 0, none⟩) cap xs := by
  obtain ⟨A3, c3, he, _, h3⟩ := Sl.of_own h
  injection he with e1 e2 e3
  subst e1 e3
  exact h3
set_option maxHeartbeats 2000000 in
theorem bytes_walk (A : Option Addr) (c : Nat) (l : List UInt8) (x : BitVec 32) (w : World) (hT : Tabs w) (hl : Sl w A c (byts l)) (hlm : l.length ≤ 9223372036854775807) :
    Calls Tryd.prog 5 #[.slice A l.length c, .int .u32 (u x)] w fun e w' => e = .returned (.bool true) ∧ Below w.heap.size w w' := by
  by_cases hbig : 500 < l.length
  · have hb2 : (500 : Int) < (l.length : Int) := by omega
    go_enter Tryd.func5, Tryd.ntmps5
    go_wp2_with (go_at_call 6; refine (alive_any _ hT).mono ?_; rintro e w1 ⟨rfl, hbel⟩)
    go_ret
    exact ⟨rfl, hbel⟩
  · obtain ⟨i0, hi, hz0, hz1, hz2⟩ := info_parts infoByte
    have hb2 : (l.length : Int) ≤ 500 := by omega
    have hm : 0 + l.length ≤ maxLen := by unfold maxLen; omega
    go_enter Tryd.func5, Tryd.ntmps5
    go_wp2_with (first
      | (go_at_call 6; refine (alive_any _ hT).mono ?_; rintro e w1 ⟨rfl, hbel1⟩)
      | (at_builtin; refine wpList_append_sl rfl (.tmp 11) (.tmp 12) 32 rfl w.heap.size 5 i0 _ 1 Tryd.underlying32 hi hz0 hz1 hz2 rfl (.slice (some ⟨w1.heap.size, 0, none⟩) 0 0) 0 [] rfl (World.ownsRow_lit w1 #[] 0 hbel1.size (by unfold maxLen; omega) rfl) A l.length c (byts l) rfl (length_byts l).symm (hl.later (Nat.le_refl _) (hbel1.alloc hbel1.size _)) (byts_one l) hm (by omega) (by rw [World.size_alloc]; have := hbel1.size; omega) ?_; intro v2 w2 hown2 hg2)
      )
    have hbel2 : Below w.heap.size w w2 := (hbel1.alloc hbel1.size _).grown hg2 (by rw [World.size_alloc]; have := hbel1.size; omega) (fun k hk => by have : k = w1.heap.size := by (have h9 : some w1.heap.size = some k := hk); (injection h9 with h9); exact h9.symm
                                                                                                                                                      have := hbel1.size; omega)
    simp only [Nat.zero_add, List.nil_append] at hown2
    obtain ⟨A2, c2, rfl, hl2, hsl2⟩ := Sl.of_own hown2
    refine (put_any A2 c2 l x _ hsl2 (by omega)).mono ?_
    rintro e w3 ⟨v3, rfl, hown3, hbel3⟩
    have hlen3 : (l ++ bytesL x).length = l.length + 4 := by rw [List.length_append]; rfl
    rw [hlen3] at hown3
    obtain ⟨g, cap, rfl, hgb, hgl⟩ := hown3.form (by omega)
    have hO : Sl w3 (some ⟨g, 0, none⟩) cap (byts (l ++ bytesL x)) := by
      obtain ⟨A3, c3, he, _, h3⟩ := Sl.of_own hown3
      injection he with e1 e2 e3
      subst e1 e3
      exact h3
    have hcap : l.length + 4 ≤ cap := by have := hO.room; rw [length_byts, hlen3] at this; exact this
    have hbelw : Below w.heap.size w w3 := hbel2.trans (hbel3.mono hbel2.size)
    have hB : Sl w3 A c (byts l) := hl.later (Nat.le_refl _) hbelw
    have hO4 : Sl w3 (some ⟨g, l.length, none⟩) (cap - l.length) (byts (bytesL x)) := by
      have := hO.cut (k := l.length) (by rw [length_byts, hlen3]; omega)
      rw [byts_append, List.drop_left' (length_byts l), Nat.zero_add] at this
      exact this
    have hm4 : l.length + (bytesL x).length ≤ maxLen := by unfold maxLen; show l.length + 4 ≤ _; omega
    have hm5 : (l.length + (bytesL x).length) * 1 ≤ 140737488355328 := by show (l.length + 4) * 1 ≤ _; omega
    have hcv : ∀ w' : World, Below w3.heap.size w3 w' → (convert 32 9 (.slice (some ⟨g, 0, none⟩) (l.length + 4) cap)).run Tryd.prog w' = .ok (.string (bstr (l ++ bytesL x))) w' :=
      fun w' hb => conv_bytes (hO.later (Nat.le_refl _) hb) _ hlen3.symm
    clear hown2 hown3 hg2 hsl2 hl2 hbel1 hbel2 hbel3 hT hgb hgl hlm hbig hl
    go_wp2_with fail
    have hI1 : (0 : Int) ≤ (l.length : Int) := by omega
    have hI2 : (l.length : Int) ≤ ((l.length + 4 : Nat) : Int) := by omega
    have hI3 : ((l.length + 4 : Nat) : Int) ≤ (cap : Int) := by omega
    have hI5 : (l.length : Int) ≤ (l.length : Int) + 4 := by omega
    have hI6 : ¬ cap = l.length := by omega
    have hI4 : (l.length : Int) ≤ (cap : Int) := by omega
    refine wp_region_noPanic ?_
    refine wp_region_held_drew (S := fun w' => Below w3.heap.size w3 w') (by kernel_rfl) ((Below.refl _ _).drew) (fun hHeld => ?_)
    refine rtake 0 _ (some 16) _ rfl rfl (by kernel_rfl) (by kernel_rfl) (by kernel_rfl) (fun _ _ _ h => h) (by rfl) hHeld (by intro w hS; go_simp; try with_reducible rfl) ?_
    try (rw [put_some]; dsimp only [List.set])
    refine rtake 2 _ (some 18) _ rfl rfl (by kernel_rfl) (by kernel_rfl) (by kernel_rfl) (fun _ _ _ h => h) (by rfl) hHeld (by intro w hS; go_simp; try with_reducible rfl) ?_
    try (rw [put_some]; dsimp only [List.set])
    refine wpAnyH_ready (rs := [1]) (by kernel_rfl) (by simp) (AllReadyH.cons (o := _) rfl (fun K hK => ?_) AllReadyH.nil)
    go_simp
    refine (get_any A c l _ (hB.later (Nat.le_refl _) hHeld) (by omega)).mono ?_; rintro e w4 ⟨rfl, hb4⟩
    try go_wp2_with fail
    refine hK.out _ _ (by first | exact hHeld | exact hk5 | exact hk6 | exact below_step hHeld hb4 | exact below_step hHeld hb7 | exact below_step hHeld hb8 | exact Below.alloc hHeld (below_size hHeld) _) (fun hHeld => ?_)
    clear hK K
    try (rw [put_some]; dsimp only [List.set])
    refine wpAnyH_ready (rs := [3]) (by kernel_rfl) (by simp) (AllReadyH.cons (o := _) rfl (fun K hK => ?_) AllReadyH.nil)
    go_simp
    refine (rget_any A c l _ (hB.later (Nat.le_refl _) hHeld)).mono ?_; rintro e w' ⟨rfl, rfl⟩
    try go_wp2_with fail
    refine hK.out _ _ (by first | exact hHeld | exact hk5 | exact hk6 | exact below_step hHeld hb4 | exact below_step hHeld hb7 | exact below_step hHeld hb8 | exact Below.alloc hHeld (below_size hHeld) _) (fun hHeld => ?_)
    clear hK K
    try (rw [put_some]; dsimp only [List.set])
    refine rtake 4 _ (some 20) _ rfl rfl (by kernel_rfl) (by kernel_rfl) (by kernel_rfl) (fun _ _ _ h => h) (by rfl) hHeld (by intro w hS; go_simp; try with_reducible rfl) ?_
    try (rw [put_some]; dsimp only [List.set])
    refine rtake 5 _ (some 21) _ rfl rfl (by kernel_rfl) (by kernel_rfl) (by kernel_rfl) (fun _ _ _ h => h) (by rfl) hHeld (by intro w hS; go_simp; try with_reducible rfl) ?_
    try (rw [put_some]; dsimp only [List.set])
    refine rtake 6 _ (some 22) _ rfl rfl (by kernel_rfl) (by kernel_rfl) (by kernel_rfl) (fun _ _ _ h => h) (by rfl) hHeld (by intro w hS; go_simp; try with_reducible rfl) ?_
    try (rw [put_some]; dsimp only [List.set])
    refine rtake 7 _ (some 23) _ rfl rfl (by kernel_rfl) (by kernel_rfl) (by kernel_rfl) (fun _ _ _ h => h) (by rfl) hHeld (by intro w hS; go_simp; try with_reducible rfl) ?_
    try (rw [put_some]; dsimp only [List.set])
    refine rtake 9 _ (some 25) _ rfl rfl (by kernel_rfl) (by kernel_rfl) (by kernel_rfl) (fun _ _ _ h => h) (by rfl) hHeld (by intro w hS; go_simp; try with_reducible rfl) ?_
    try (rw [put_some]; dsimp only [List.set])
    refine rtake 11 _ (some 27) _ rfl rfl (by kernel_rfl) (by kernel_rfl) (by kernel_rfl) (fun _ _ _ h => h) (by rfl) hHeld (by intro w hS; go_simp; try with_reducible rfl) ?_
    try (rw [put_some]; dsimp only [List.set])
    refine wpAnyH_ready (rs := [8]) (by kernel_rfl) (by simp) (AllReadyH.cons (o := _) rfl (fun K hK => ?_) AllReadyH.nil)
    have hHeld4 := hHeld
    go_simp
    refine hK.out _ _ (by first | exact hHeld | exact hk5 | exact hk6 | exact below_step hHeld hb4 | exact below_step hHeld hb7 | exact below_step hHeld hb8 | exact Below.alloc hHeld (below_size hHeld) _) (fun hHeld => ?_)
    clear hK K
    try (rw [put_some]; dsimp only [List.set])
    refine wpAnyH_ready (rs := [10]) (by kernel_rfl) (by simp) (AllReadyH.cons (o := _) rfl (fun K hK => ?_) AllReadyH.nil)
    refine step_append_sl (by rfl) (.tmp 24) (.tmp 25) 32 (by rfl) w3.heap.size 5 i0 _ 1 Tryd.underlying32 hi hz0 hz1 hz2 rfl (.slice (some ⟨w4.heap.size, 0, none⟩) 0 0) 0 [] (by rfl) (World.ownsRow_lit w4 #[] 0 hHeld4.size (by unfold maxLen; omega) rfl) A l.length c (byts l) (by rfl) (length_byts l).symm (hB.later (Nat.le_refl _) hHeld) (byts_one l) hm (by omega) w3 rfl hHeld ?_; intro v5 w5 hown5 hg5 hk5; simp only [Nat.zero_add, List.nil_append] at hown5
    refine hK.out _ _ (by first | exact hHeld | exact hk5 | exact hk6 | exact below_step hHeld hb4 | exact below_step hHeld hb7 | exact below_step hHeld hb8 | exact Below.alloc hHeld (below_size hHeld) _) (fun hHeld => ?_)
    clear hK K
    try (rw [put_some]; dsimp only [List.set])
    refine wpAnyH_ready (rs := [12]) (by kernel_rfl) (by simp) (AllReadyH.cons (o := _) rfl (fun K hK => ?_) AllReadyH.nil)
    go_simp
    refine (rbytes_any x _).mono ?_; rintro e w7 ⟨v7, rfl, hown7, hb7⟩; obtain ⟨g7, cap7, rfl, hgb7, hgl7⟩ := hown7.form (by show 0 < 4; decide); have hsl7 := sl_of_own hown7
    try go_wp2_with fail
    refine hK.out _ _ (by first | exact hHeld | exact hk5 | exact hk6 | exact below_step hHeld hb4 | exact below_step hHeld hb7 | exact below_step hHeld hb8 | exact Below.alloc hHeld (below_size hHeld) _) (fun hHeld => ?_)
    clear hK K
    try (rw [put_some]; dsimp only [List.set])
    refine wpAnyH_ready (rs := [13]) (by kernel_rfl) (by simp) (AllReadyH.cons (o := _) rfl (fun K hK => ?_) AllReadyH.nil)
    refine step_append_sl (by rfl) (.tmp 26) (.tmp 28) 32 (by rfl) w3.heap.size 5 i0 _ 1 Tryd.underlying32 hi hz0 hz1 hz2 rfl v5 l.length (byts l) (by rfl) (own_later hown5 hb7 (Nat.le_refl _)) _ _ _ (byts (bytesL x)) (by rfl) (length_byts _).symm hsl7 (byts_one _) hm4 hm5 w3 rfl hHeld ?_; intro v6 w6 hown6 hg6 hk6; obtain ⟨A6, c6, rfl, hl6, hsl6⟩ := Sl.of_own hown6; rw [← byts_append] at hsl6; have hcv6 := conv_bytes hsl6 _ List.length_append.symm
    refine hK.out _ _ (by first | exact hHeld | exact hk5 | exact hk6 | exact below_step hHeld hb4 | exact below_step hHeld hb7 | exact below_step hHeld hb8 | exact Below.alloc hHeld (below_size hHeld) _) (fun hHeld => ?_)
    clear hK K
    try (rw [put_some]; dsimp only [List.set])
    refine wpAnyH_ready (rs := [14]) (by kernel_rfl) (by simp) (AllReadyH.cons (o := _) rfl (fun K hK => ?_) AllReadyH.nil)
    go_simp
    refine hK.out _ _ (by first | exact hHeld | exact hk5 | exact hk6 | exact below_step hHeld hb4 | exact below_step hHeld hb7 | exact below_step hHeld hb8 | exact Below.alloc hHeld (below_size hHeld) _) (fun hHeld => ?_)
    clear hK K
    try (rw [put_some]; dsimp only [List.set])
    refine rtake 15 _ (some 31) _ rfl rfl (by kernel_rfl) (by kernel_rfl) (by kernel_rfl) (fun _ _ _ h => h) (by rfl) hHeld (by intro w hS; go_simp; try with_reducible rfl) ?_
    try (rw [put_some]; dsimp only [List.set])
    refine rtake 16 _ (some 32) _ rfl rfl (by kernel_rfl) (by kernel_rfl) (by kernel_rfl) (fun _ _ _ h => h) (by rfl) hHeld (by intro w hS; go_simp; try with_reducible rfl) ?_
    try (rw [put_some]; dsimp only [List.set])
    refine rtake 17 _ (some 33) _ rfl rfl (by kernel_rfl) (by kernel_rfl) (by kernel_rfl) (fun _ _ _ h => h) (by rfl) hHeld (by intro w hS; go_simp; try with_reducible rfl) ?_
    try (rw [put_some]; dsimp only [List.set])
    refine rtake 18 _ (some 34) _ rfl rfl (by kernel_rfl) (by kernel_rfl) (by kernel_rfl) (fun _ _ _ h => h) (by rfl) hHeld (by intro w hS; go_simp; try with_reducible rfl) ?_
    try (rw [put_some]; dsimp only [List.set])
    refine rtake 19 _ (some 35) _ rfl rfl (by kernel_rfl) (by kernel_rfl) (by kernel_rfl) (fun _ _ _ h => h) (by rfl) hHeld (by intro w hS; go_simp; try with_reducible rfl) ?_
    try (rw [put_some]; dsimp only [List.set])
    refine rtake 20 _ (some 36) _ rfl rfl (by kernel_rfl) (by kernel_rfl) (by kernel_rfl) (fun _ _ _ h => h) (by rfl) hHeld (by intro w hS; go_simp; try with_reducible rfl) ?_
    try (rw [put_some]; dsimp only [List.set])
    refine rtake 23 _ (some 39) _ rfl rfl (by kernel_rfl) (by kernel_rfl) (by kernel_rfl) (fun _ _ _ h => h) (by rfl) hHeld (by intro w hS; go_simp; try with_reducible rfl) ?_
    try (rw [put_some]; dsimp only [List.set])
    refine rtake 21 _ (some 37) _ rfl rfl (by kernel_rfl) (by kernel_rfl) (by kernel_rfl) (fun _ _ _ h => h) (by rfl) hHeld (by intro w hS; go_simp; try with_reducible rfl) ?_
    try (rw [put_some]; dsimp only [List.set])
    refine wpAnyH_ready (rs := [22]) (by kernel_rfl) (by simp) (AllReadyH.cons (o := _) rfl (fun K hK => ?_) AllReadyH.nil)
    go_simp
    refine (get_at _ _ _ (bytesL x) _ (hO4.later (Nat.le_refl _) hHeld) rfl (by show 4 ≤ 1000000; decide)).mono ?_; rintro e w8 ⟨rfl, hb8⟩; rw [getV_word]
    try go_wp2_with fail
    refine hK.out _ _ (by first | exact hHeld | exact hk5 | exact hk6 | exact below_step hHeld hb4 | exact below_step hHeld hb7 | exact below_step hHeld hb8 | exact Below.alloc hHeld (below_size hHeld) _) (fun hHeld => ?_)
    clear hK K
    try (rw [put_some]; dsimp only [List.set])
    refine rtake 24 _ (some 40) _ rfl rfl (by kernel_rfl) (by kernel_rfl) (by kernel_rfl) (fun _ _ _ h => h) (by rfl) hHeld (by intro w hS; go_simp; try with_reducible rfl) ?_
    try (rw [put_some]; dsimp only [List.set])
    refine rtake 25 _ (some 41) _ rfl rfl (by kernel_rfl) (by kernel_rfl) (by kernel_rfl) (fun _ _ _ h => h) (by rfl) hHeld (by intro w hS; go_simp; try with_reducible rfl) ?_
    try (rw [put_some]; dsimp only [List.set])
    refine rtake 26 _ (some 42) _ rfl rfl (by kernel_rfl) (by kernel_rfl) (by kernel_rfl) (fun _ _ _ h => h) (by rfl) hHeld (by intro w hS; go_simp; try with_reducible rfl) ?_
    try (rw [put_some]; dsimp only [List.set])
    refine rtake 27 _ (some 43) _ rfl rfl (by kernel_rfl) (by kernel_rfl) (by kernel_rfl) (fun _ _ _ h => h) (by rfl) hHeld (by intro w hS; go_simp; try with_reducible rfl) ?_
    try (rw [put_some]; dsimp only [List.set])
    refine rtake 28 _ (some 44) _ rfl rfl (by kernel_rfl) (by kernel_rfl) (by kernel_rfl) (fun _ _ _ h => h) (by rfl) hHeld (by intro w hS; go_simp; try with_reducible rfl) ?_
    try (rw [put_some]; dsimp only [List.set])
    refine rtake 29 _ (some 45) _ rfl rfl (by kernel_rfl) (by kernel_rfl) (by kernel_rfl) (fun _ _ _ h => h) (by rfl) hHeld (by intro w hS; go_simp; try with_reducible rfl) ?_
    try (rw [put_some]; dsimp only [List.set])
    refine rtake 31 _ (some 47) _ rfl rfl (by kernel_rfl) (by kernel_rfl) (by kernel_rfl) (fun _ _ _ h => h) (by rfl) hHeld (by intro w hS; go_simp; try with_reducible rfl) ?_
    try (rw [put_some]; dsimp only [List.set])
    refine rtake 32 _ (some 48) _ rfl rfl (by kernel_rfl) (by kernel_rfl) (by kernel_rfl) (fun _ _ _ h => h) (by rfl) hHeld (by intro w hS; go_simp; try with_reducible rfl) ?_
    try (rw [put_some]; dsimp only [List.set])
    refine rtake 33 _ (some 49) _ rfl rfl (by kernel_rfl) (by kernel_rfl) (by kernel_rfl) (fun _ _ _ h => h) (by rfl) hHeld (by intro w hS; go_simp; try with_reducible rfl) ?_
    try (rw [put_some]; dsimp only [List.set])
    refine rtake 35 _ (some 51) _ rfl rfl (by kernel_rfl) (by kernel_rfl) (by kernel_rfl) (fun _ _ _ h => h) (by rfl) hHeld (by intro w hS; go_simp; try with_reducible rfl) ?_
    try (rw [put_some]; dsimp only [List.set])
    refine wpAnyH_ready (rs := [30]) (by kernel_rfl) (by simp) (AllReadyH.cons (o := _) rfl (fun K hK => ?_) AllReadyH.nil)
    go_simp
    refine (turn_any _ _ _).mono ?_; rintro e w' ⟨rfl, rfl⟩
    try go_wp2_with fail
    refine hK.out _ _ (by first | exact hHeld | exact hk5 | exact hk6 | exact below_step hHeld hb4 | exact below_step hHeld hb7 | exact below_step hHeld hb8 | exact Below.alloc hHeld (below_size hHeld) _) (fun hHeld => ?_)
    clear hK K
    try (rw [put_some]; dsimp only [List.set])
    refine wpAnyH_ready (rs := [34]) (by kernel_rfl) (by simp) (AllReadyH.cons (o := _) rfl (fun K hK => ?_) AllReadyH.nil)
    go_simp
    refine (turn_any _ _ _).mono ?_; rintro e w' ⟨rfl, rfl⟩
    try go_wp2_with fail
    refine hK.out _ _ (by first | exact hHeld | exact hk5 | exact hk6 | exact below_step hHeld hb4 | exact below_step hHeld hb7 | exact below_step hHeld hb8 | exact Below.alloc hHeld (below_size hHeld) _) (fun hHeld => ?_)
    clear hK K
    try (rw [put_some]; dsimp only [List.set])
    refine rtake 36 _ (some 52) _ rfl rfl (by kernel_rfl) (by kernel_rfl) (by kernel_rfl) (fun _ _ _ h => h) (by rfl) hHeld (by intro w hS; go_simp; try with_reducible rfl) ?_
    try (rw [put_some]; dsimp only [List.set])
    refine rtake 37 _ (some 53) _ rfl rfl (by kernel_rfl) (by kernel_rfl) (by kernel_rfl) (fun _ _ _ h => h) (by rfl) hHeld (by intro w hS; go_simp; try with_reducible rfl) ?_
    try (rw [put_some]; dsimp only [List.set])
    refine rtake 38 _ (some 4) _ rfl rfl (by kernel_rfl) (by kernel_rfl) (by kernel_rfl) (fun _ _ _ h => h) (by rfl) hHeld (by intro w hS; go_simp; try with_reducible rfl) ?_
    try (rw [put_some]; dsimp only [List.set])
    refine wpAnyH_done (by kernel_rfl) ?_ _
    refine NoPanic.normal ?_
    have hb8' : Below w.heap.size w w8 := hbelw.trans (hHeld.mono hbelw.size)
    have ht : turn (turn x (l.length : Int)) (IntKind.i64.wrap (-(l.length : Int))) = x := by
      rw [IntWalk.i64_in _ (by omega)]
      exact turn_turn x _ _ (by omega)
    have HT := Lib.hid ht
    clear ht
    go_wp2
    go_ret
    refine ⟨?_, hb8'⟩
    rw [← show (u (turn (turn x (l.length : Int)) (IntKind.i64.wrap (-(l.length : Int)))) == u x) = true by rw [HT.out]; simp]
    rfl
end Go.Proofs.YtildfmadggmdaaaDoor
