/- Texts of this claim, one behind the other. -/
import Derived.Test.YtgnhmpfoddfpdaaGreatDoorRaao
import Derived.Test.YtgnhmpfoddfpdaaGreatDoorRaad
import Derived.Test.YtgnhmpfoddfpdaaGreatDoorRaal
import Derived.Test.YtgnhmpfoddfpdaaGreatDoorRaag
import Derived.Test.YtgnhmpfoddfpdaaGreatDoorRaai
/- LAYER 12: lists: what package addr's read finds in an address's text is that address. -/
namespace Go.Proofs.YtgnhmpfoddfpdaaGreatDoor
set_option maxRecDepth 100000
open Go Go.RowKit

theorem dv_hex : ∀ d : Nat, d < 16 → dvL (hexD d).toNat = d := by
  intro d hd
  have : d = 0 ∨ d = 1 ∨ d = 2 ∨ d = 3 ∨ d = 4 ∨ d = 5 ∨ d = 6 ∨ d = 7 ∨ d = 8 ∨ d = 9 ∨ d = 10 ∨ d = 11 ∨ d = 12 ∨ d = 13 ∨ d = 14 ∨ d = 15 := by omega
  rcases this with rfl | rfl | rfl | rfl | rfl | rfl | rfl | rfl | rfl | rfl | rfl | rfl | rfl | rfl | rfl | rfl <;> decide
theorem puL_append (b : Nat) (t : List UInt8) : ∀ (s : List UInt8) (m k : Nat), puL b m s = (k, 0) → puL b m (s ++ t) = puL b k t
  | [], m, k, h => by cases h; rfl
  | c :: s, m, k, h => by
    rw [puL] at h
    rw [List.cons_append, puL]
    split at h
    · cases h
    · rename_i h1
      rw [if_neg h1]
      split at h
      · cases h
      · rename_i h2
        rw [if_neg h2]
        exact puL_append b t s _ k h
theorem puL_num (b : Nat) (h2 : 2 ≤ b) (hb : b ≤ 16) (n : Nat) : n ≤ 65535 → puL b 0 (numL b n) = (n, 0) := by
  induction n using Nat.strongRecOn with
  | _ n ih =>
    intro hn
    by_cases hlt : n < b
    · rw [numL_small b n hlt]
      show (if b ≤ dvL (hexD n).toNat then (0, 2) else if 65535 < 0 * b + dvL (hexD n).toNat then (65535, 1) else puL b (0 * b + dvL (hexD n).toNat) []) = _
      rw [dv_hex n (by omega), if_neg (by omega), if_neg (by omega), Nat.zero_mul, Nat.zero_add]; rfl
    · have hdm : n / b * b + n % b = n := by rw [Nat.mul_comm]; exact Nat.div_add_mod n b
      have hml : n % b < b := Nat.mod_lt _ (by omega)
      rw [numL_great b n (by omega) (by omega), puL_append b _ _ 0 (n / b) (ih (n / b) (Nat.div_lt_self (by omega) (by omega)) (Nat.le_trans (Nat.div_le_self _ _) hn))]
      show (if b ≤ dvL (hexD (n % b)).toNat then (0, 2) else if 65535 < n / b * b + dvL (hexD (n % b)).toNat then (65535, 1) else puL b (n / b * b + dvL (hexD (n % b)).toNat) []) = _
      rw [dv_hex _ (by omega), if_neg (by omega), hdm, if_neg (by omega)]; rfl
theorem puA_num (b : Nat) (h2 : 2 ≤ b) (hb : b ≤ 16) (n : Nat) (hn : n ≤ 65535) : (puA b (numL b n)).1 = n := by
  unfold puA
  rw [if_neg (numL_ne b n), puL_num b h2 hb n hn]
theorem numsF_of (b dg most : Nat) (x : UInt8) (h2 : 2 ≤ b) (hb : b ≤ 16) (s : List UInt8) (l : List Nat) (hl : l.length ≤ 8) (hm : most ≤ 65535) (h : numbersL b dg most x s = some l) : numsF b x s = l := by
  unfold numbersL at h
  unfold numsF
  by_cases h0 : s = []
  · rw [if_pos h0] at h ⊢; cases h; rfl
  · rw [if_neg h0] at h ⊢
    obtain ⟨h1, h3⟩ := (goL_iff b dg most h2 hb _ _).1 h
    rw [← h1, List.take_of_length_le (by rw [List.length_map]; exact hl), List.map_map]
    conv => rhs; rw [← List.map_id l]
    exact List.map_congr_left fun n hn => puA_num b h2 hb n (Nat.le_trans (h3 n hn).1 hm)
theorem index_findC (s : List UInt8) : Lib.index s [58, 58] = match findC s with | none => -1 | some k => (k : Int) := by
  induction s with
  | nil => rfl
  | cons c s ih =>
    cases s with
    | nil => 
      show (if _ then _ else _) = _
      rw [if_neg (by simp [List.isPrefixOf])]; rfl
    | cons d s =>
      show (if _ then _ else _) = _
      by_cases h : c = 58 ∧ d = 58
      · obtain ⟨rfl, rfl⟩ := h
        rw [if_pos (by simp [List.isPrefixOf])]; rfl
      · rw [if_neg (by simp [List.isPrefixOf]; intro h1 h2; exact h ⟨h1.symm, h2.symm⟩), ih, findC_cons c d s h]
        cases findC (d :: s) with
        | none => rfl
        | some k =>
          show (if ((k : Int) == -1) = true then (-1 : Int) else (k : Int) + 1) = ((k + 1 : Nat) : Int)
          rw [if_neg (by simp)]; rfl
theorem cutF_none (s : List UInt8) (h : findC s = none) : cutF s = (s, []) := by
  have := index_findC s
  rw [h] at this
  unfold cutF Lib.cut
  rw [this]; rfl
theorem cutF_some (s : List UInt8) (k : Nat) (h : findC s = some k) : cutF s = (s.take k, s.drop (k + 2)) := by
  have := index_findC s
  rw [h] at this
  unfold cutF Lib.cut
  rw [this, if_pos (by simp)]; rfl
theorem indexByte_mem (s : List UInt8) (c : UInt8) : 0 ≤ Lib.indexByte s c ↔ c ∈ s := by
  constructor
  · intro h
    obtain ⟨o, ho⟩ : ∃ o : Nat, Lib.indexByte s c = (o : Int) := ⟨(Lib.indexByte s c).toNat, by omega⟩
    exact List.mem_of_getElem? (Lib.indexByte_some ho).1
  · intro h
    have hge := Lib.indexByte_ge s c
    by_cases hn : Lib.indexByte s c = -1
    · obtain ⟨k, hk⟩ := List.getElem?_of_mem h
      exact absurd hk (Lib.indexByte_none hn k)
    · omega
theorem findC_mem (s : List UInt8) : ∀ k, findC s = some k → (58 : UInt8) ∈ s := by
  intro k h
  have := index_findC s
  rw [h] at this
  rcases Lib.index_spec s [58, 58] with ⟨h1, -⟩ | ⟨i, h1, h2, h3, -⟩
  · rw [this] at h1; simp at h1
  · unfold Lib.occAt at h3
    cases hd : s.drop i with
    | nil => rw [hd] at h3; simp [List.isPrefixOf] at h3
    | cons c t =>
      rw [hd] at h3
      simp [List.isPrefixOf] at h3
      have : c ∈ s.drop i := by rw [hd]; exact List.mem_cons_self ..
      rw [← h3.1] at this
      exact List.mem_of_mem_drop this
theorem padF_full (l : List Nat) (h : l.length = 8) : padF l [] = l := by unfold padF; simp [h]; exact List.take_of_length_le (by omega)
theorem padF_padL (f b : List Nat) (h : f.length + b.length ≤ 7) : padF f b = padL f b := by
  unfold padF padL
  rw [List.take_append, List.take_of_length_le (by omega), List.take_replicate, List.append_assoc, show min (8 - b.length - f.length) (8 - f.length) = 8 - (f.length + b.length) by omega]
theorem glue_in (x : UInt8) (ps : List (List UInt8)) (h : 2 ≤ ps.length) : x ∈ glueL x ps := by
  match ps, h with
  | p :: q :: ps, _ => rw [glueL_cons x p (q :: ps) (by simp)]; simp
theorem read_six (s : List UInt8) (a : Adr) (h : parse6 s = some a) : readF s = a := by
  unfold parse6 at h
  cases hf : findC s with
  | none =>
    rw [hf] at h
    cases hn : numbersL 16 4 65535 58 s with
    | none => rw [hn] at h; cases h
    | some l =>
      simp only [hn] at h
      by_cases hc : l.length = 8 ∧ textA (sixA l) = s
      · rw [if_pos hc] at h
        cases h
        have hs := ((numbersL_iff 16 4 65535 58 (by omega) (by omega) (.inr rfl) s l).1 hn).1
        unfold readF
        rw [if_pos ((indexByte_mem s 58).2 (by rw [hs]; exact glue_in 58 _ (by rw [List.length_map]; omega)))]
        unfold readSixF
        rw [cutF_none s hf, numsF_of 16 4 65535 58 (by omega) (by omega) s l (by omega) (by omega) hn]
        show sixA (padF l []) = _
        rw [padF_full l hc.1]
      · rw [if_neg hc] at h; cases h
  | some k =>
    rw [hf] at h
    cases hn : numbersL 16 4 65535 58 (s.take k) with
    | none => simp [hn] at h
    | some f =>
      cases hm : numbersL 16 4 65535 58 (s.drop (k + 2)) with
      | none => simp [hn, hm] at h
      | some b =>
        simp only [hn, hm] at h
        by_cases hc : f.length + b.length ≤ 7 ∧ textA (sixA (padL f b)) = s
        · rw [if_pos hc] at h
          cases h
          unfold readF
          rw [if_pos ((indexByte_mem s 58).2 (findC_mem s k hf))]
          unfold readSixF
          rw [cutF_some s k hf]
          show sixA (padF (numsF 16 58 (s.take k)) (numsF 16 58 (s.drop (k + 2)))) = _
          rw [numsF_of 16 4 65535 58 (by omega) (by omega) _ f (by omega) (by omega) hn, numsF_of 16 4 65535 58 (by omega) (by omega) _ b (by omega) (by omega) hm, padF_padL f b hc.1]
        · rw [if_neg hc] at h; cases h
theorem read_parse (s : List UInt8) (a : Adr) (h : parseL s = some a) : readF s = a := by
  unfold parseL at h
  cases hn : numbersL 10 3 255 46 s with
  | none => rw [hn] at h; exact read_six s a h
  | some l =>
    simp only [hn] at h
    by_cases h4 : l.length = 4
    · rw [if_pos h4] at h
      cases h
      obtain ⟨hs, hall⟩ := (numbersL_iff 10 3 255 46 (by omega) (by omega) (.inl rfl) s l).1 hn
      have hno : ¬ 0 ≤ Lib.indexByte s 58 := by
        rw [indexByte_mem, hs]
        intro hmem
        rcases mem_glue 46 _ 58 hmem with h | ⟨p, hp, hc⟩
        · exact absurd h (by decide)
        · obtain ⟨n, -, rfl⟩ := List.mem_map.1 hp
          exact (numL_sign 10 n (by omega) (by omega) 58 hc).2 rfl
      unfold readF
      rw [if_neg hno, numsF_of 10 3 255 46 (by omega) (by omega) s l (by omega) (by omega) hn]
      match l, h4 with
      | [p, q, r, t], _ => rfl
    · rw [if_neg h4] at h; exact read_six s a h
/-- What package addr's Parse answers is what the document asks. -/
theorem parse_read (s : List UInt8) : parseL s = if textA (readF s) = s then some (readF s) else none := by
  by_cases h : textA (readF s) = s
  · rw [if_pos h]
    exact (parseL_iff s (readF s)).2 ⟨readF_ok s, readF_check s, h⟩
  · rw [if_neg h]
    cases hp : parseL s with
    | none => rfl
    | some a =>
      have hr := read_parse s a hp
      exact absurd (by rw [hr]; exact ((parseL_iff s a).1 hp).2.2) h
end Go.Proofs.YtgnhmpfoddfpdaaGreatDoor

/- LAYER 12: the document's Parse of four bytes. -/
namespace Go.Proofs.YtgnhmpfoddfpdaaGreatDoor
set_option maxRecDepth 100000
open Go Go.RowKit

def parsV (o : Option Adr) : Value := match o with
  | none => .tuple #[.agg (adrV zeroA).toArray, .bool false]
  | some a => .tuple #[.agg (adrV a).toArray, .bool true]
set_option maxHeartbeats 2000000 in
theorem rparse_four (s : List UInt8) (hs : s.length ≤ 1000) (l : List Nat) (hn : numbersL 10 3 255 46 s = some l) (h4 : l.length = 4) (w : World) :
    Calls Tryz.prog 39 #[.string (bstr s)] w fun e w' => e = .returned (parsV (some (fourA l))) ∧ Below w.heap.size w w' := by
  have hm := ((numbersL_iff 10 3 255 46 (by omega) (by omega) (.inl rfl) s l).1 hn).2
  have hnum := Lib.hid (fun w' => rnumbers10_any s hs w')
  rw [hn] at hnum
  match l, h4, hm with
  | [a, b, c, d], _, hm =>
  have ha := (hm a (by simp)).1
  have hb := (hm b (by simp)).1
  have hc := (hm c (by simp)).1
  have hd := (hm d (by simp)).1
  have HF := Lib.hid (show (adrV (fourA [a, b, c, d])) = [.bool false, .int .u8 ((UInt8.ofNat a).toNat : Int), .int .u8 ((UInt8.ofNat b).toNat : Int), .int .u8 ((UInt8.ofNat c).toNat : Int), .int .u8 ((UInt8.ofNat d).toNat : Int)] ++ byts (List.replicate 12 0) from rfl)
  have hwa : IntKind.u8.wrap (a : Int) = ((UInt8.ofNat a).toNat : Int) := by rw [IntKind.wrap_u8, UInt8.toNat_ofNat']; omega
  have hwb : IntKind.u8.wrap (b : Int) = ((UInt8.ofNat b).toNat : Int) := by rw [IntKind.wrap_u8, UInt8.toNat_ofNat']; omega
  have hwc : IntKind.u8.wrap (c : Int) = ((UInt8.ofNat c).toNat : Int) := by rw [IntKind.wrap_u8, UInt8.toNat_ofNat']; omega
  have hwd : IntKind.u8.wrap (d : Int) = ((UInt8.ofNat d).toNat : Int) := by rw [IntKind.wrap_u8, UInt8.toNat_ofNat']; omega
  have r0 : Row (w.alloc (.cells (adrV zeroA).toArray 26)) w.heap.size 26 (adrV zeroA) := Row.new w _ _
  have hok : (fourA [a, b, c, d]).Ok := rfl
  have hsz := Lib.hid (show (Tryz.prog.info? 26).map (·.size) = some (adrV (fourA [a, b, c, d])).length by rw [size_adr, length_adrV hok])
  have HV1 := Lib.hid (adrV_one (fourA [a, b, c, d]))
  have HVl := Lib.hid (show 0 + (adrV (fourA [a, b, c, d])).length ≤ (adrV zeroA).length by rw [length_adrV hok, length_adrV zeroA_ok]; exact Nat.le_refl _)
  have HSP := Lib.hid (show splice (adrV zeroA) 0 (adrV (fourA [a, b, c, d])) = adrV (fourA [a, b, c, d]) from rfl)
  have hb0 : Below w.heap.size w (w.alloc (.cells (adrV zeroA).toArray 26)) := (Below.refl _ w).alloc (Nat.le_refl _) _
  clear hm hn
  go_enter Tryz.func39, Tryz.ntmps39
  go_wp2_with (go_at_call 65; refine (hnum.out _).mono ?_; rintro e w3 ⟨v3, rfl, ⟨u, rfl, hown⟩, hb3⟩; obtain ⟨A, cc, rfl, -, hsl⟩ := Sl.of_own hown; have hr3 := r0.later hb3 r0.lt; have hb3 := hb0.trans (hb3.mono hb0.size))
  obtain ⟨bk, o, rfl, -, -⟩ := hsl.rd.get (i := 0) (by rw [length_intsV]; simp)
  have hne : bk ≠ w.heap.size := own_apart hown (by rw [World.size_alloc]; omega) ⟨bk, o, none⟩ rfl
  have hcs := fun w' (hg : World.grownBy w3 w' (some w.heap.size)) => hsl.apart hg (fun _ a ha => by cases ha; exact hne)
  have hc0 : ∀ w', World.grownBy w3 w' (some w.heap.size) → w'.cell? ⟨bk, o, none⟩ = some (.int .i64 (a : Int)) := fun w' hg => ints_cell (hcs w' hg) 0 (by simp)
  have hc1 : ∀ w', World.grownBy w3 w' (some w.heap.size) → w'.cell? ⟨bk, o + 1, none⟩ = some (.int .i64 (b : Int)) := fun w' hg => ints_cell (hcs w' hg) 1 (by simp)
  have hc2 : ∀ w', World.grownBy w3 w' (some w.heap.size) → w'.cell? ⟨bk, o + 2, none⟩ = some (.int .i64 (c : Int)) := fun w' hg => ints_cell (hcs w' hg) 2 (by simp)
  have hc3 : ∀ w', World.grownBy w3 w' (some w.heap.size) → w'.cell? ⟨bk, o + 3, none⟩ = some (.int .i64 (d : Int)) := fun w' hg => ints_cell (hcs w' hg) 3 (by simp)
  have hb3g := hb3.size
  clear hcs hsl hown r0 hb0
  generalize adrV (fourA [a, b, c, d]) = V at *
  refine wp_region_noPanic ?_
  refine wp_region_held_drew (S := fun w' => World.grownBy w3 w' (some w.heap.size)) (by kernel_rfl) (grown_of_below (Below.refl _ _).drew _) (fun hHeld => ?_)
  refine rtake 0 _ (some 23) _ rfl rfl (by kernel_rfl) (by kernel_rfl) (by kernel_rfl) (fun _ _ _ h => h) (by rfl) hHeld (by intro w hS; go_simp; try with_reducible rfl) ?_
  try (first | (rw [put_some]; dsimp only [List.set]) | rw [put_none])
  refine rtake 1 _ (some 24) _ rfl rfl (by kernel_rfl) (by kernel_rfl) (by kernel_rfl) (fun _ _ _ h => h) (by rfl) hHeld (by intro w hS; go_simp; try with_reducible rfl) ?_
  try (first | (rw [put_some]; dsimp only [List.set]) | rw [put_none])
  refine rtake 2 _ (some 25) _ rfl rfl (by kernel_rfl) (by kernel_rfl) (by kernel_rfl) (fun _ _ _ h => h) (by rfl) hHeld (by intro w hS; go_simp; try with_reducible rfl) ?_
  try (first | (rw [put_some]; dsimp only [List.set]) | rw [put_none])
  refine rtake 3 _ (some 26) _ rfl rfl (by kernel_rfl) (by kernel_rfl) (by kernel_rfl) (fun _ _ _ h => h) (by rfl) hHeld (by intro w hS; go_simp; try with_reducible rfl) ?_
  try (first | (rw [put_some]; dsimp only [List.set]) | rw [put_none])
  refine rtake 4 _ (some 27) _ rfl rfl (by kernel_rfl) (by kernel_rfl) (by kernel_rfl) (fun _ _ _ h => h) (by rfl) hHeld (by intro w hS; go_simp; try with_reducible rfl) ?_
  try (first | (rw [put_some]; dsimp only [List.set]) | rw [put_none])
  refine rtake 5 _ (some 28) _ rfl rfl (by kernel_rfl) (by kernel_rfl) (by kernel_rfl) (fun _ _ _ h => h) (by rfl) hHeld (by intro w hS; go_simp; try with_reducible rfl) ?_
  try (first | (rw [put_some]; dsimp only [List.set]) | rw [put_none])
  refine rtake 6 _ (some 29) _ rfl rfl (by kernel_rfl) (by kernel_rfl) (by kernel_rfl) (fun _ _ _ h => h) (by rfl) hHeld (by intro w hS; go_simp; try with_reducible rfl) ?_
  try (first | (rw [put_some]; dsimp only [List.set]) | rw [put_none])
  refine rtake 7 _ (some 30) _ rfl rfl (by kernel_rfl) (by kernel_rfl) (by kernel_rfl) (fun _ _ _ h => h) (by rfl) hHeld (by intro w hS; go_simp; try with_reducible rfl) ?_
  try (first | (rw [put_some]; dsimp only [List.set]) | rw [put_none])
  refine rtake 8 _ (some 31) _ rfl rfl (by kernel_rfl) (by kernel_rfl) (by kernel_rfl) (fun _ _ _ h => h) (by rfl) hHeld (by intro w hS; go_simp; try with_reducible rfl) ?_
  try (first | (rw [put_some]; dsimp only [List.set]) | rw [put_none])
  refine rtake 9 _ (some 32) _ rfl rfl (by kernel_rfl) (by kernel_rfl) (by kernel_rfl) (fun _ _ _ h => h) (by rfl) hHeld (by intro w hS; go_simp; try with_reducible rfl) ?_
  try (first | (rw [put_some]; dsimp only [List.set]) | rw [put_none])
  refine rtake 10 _ (some 33) _ rfl rfl (by kernel_rfl) (by kernel_rfl) (by kernel_rfl) (fun _ _ _ h => h) (by rfl) hHeld (by intro w hS; go_simp; try with_reducible rfl) ?_
  try (first | (rw [put_some]; dsimp only [List.set]) | rw [put_none])
  refine rtake 11 _ (some 34) _ rfl rfl (by kernel_rfl) (by kernel_rfl) (by kernel_rfl) (fun _ _ _ h => h) (by rfl) hHeld (by intro w hS; go_simp; try with_reducible rfl) ?_
  try (first | (rw [put_some]; dsimp only [List.set]) | rw [put_none])
  refine rtake 12 _ (some 35) _ rfl rfl (by kernel_rfl) (by kernel_rfl) (by kernel_rfl) (fun _ _ _ h => h) (by rfl) hHeld (by intro w hS; go_simp; try with_reducible rfl) ?_
  try (first | (rw [put_some]; dsimp only [List.set]) | rw [put_none])
  refine rtake 13 _ (some 36) _ rfl rfl (by kernel_rfl) (by kernel_rfl) (by kernel_rfl) (fun _ _ _ h => h) (by rfl) hHeld (by intro w hS; go_simp; try with_reducible rfl) ?_
  try (first | (rw [put_some]; dsimp only [List.set]) | rw [put_none])
  refine rtake 14 _ (some 37) _ rfl rfl (by kernel_rfl) (by kernel_rfl) (by kernel_rfl) (fun _ _ _ h => h) (by rfl) hHeld (by intro w hS; go_simp; try with_reducible rfl) ?_
  try (first | (rw [put_some]; dsimp only [List.set]) | rw [put_none])
  refine rtake 15 _ (some 38) _ rfl rfl (by kernel_rfl) (by kernel_rfl) (by kernel_rfl) (fun _ _ _ h => h) (by rfl) hHeld (by intro w hS; go_simp; try with_reducible rfl) ?_
  try (first | (rw [put_some]; dsimp only [List.set]) | rw [put_none])
  refine rtake 16 _ (some 39) _ rfl rfl (by kernel_rfl) (by kernel_rfl) (by kernel_rfl) (fun _ _ _ h => h) (by rfl) hHeld (by intro w hS; go_simp; try with_reducible rfl) ?_
  try (first | (rw [put_some]; dsimp only [List.set]) | rw [put_none])
  refine rtake 17 _ (some 40) _ rfl rfl (by kernel_rfl) (by kernel_rfl) (by kernel_rfl) (fun _ _ _ h => h) (by rfl) hHeld (by intro w hS; go_simp; try with_reducible rfl) ?_
  try (first | (rw [put_some]; dsimp only [List.set]) | rw [put_none])
  refine wpAnyH_ready (rs := [18]) (by kernel_rfl) (by simp) (AllReadyH.cons (o := _) rfl (fun K hK => ?_) AllReadyH.nil)
  refine step_store_row none rfl (by rfl) 26 (.tmp 2) (.tmp 40) rfl w.heap.size 0 26 (adrV zeroA) V rfl (by rw [HF.out]; rfl) (hr3.later (Below.refl _ _).drew hr3.lt) HVl.out hsz.out HV1.out ?_; intro w4 hr4 hg4; have hr4 : Row w4 w.heap.size 26 V := (by rw [HSP.out] at hr4; exact hr4)
  refine hK.out _ _ (grown_trans hHeld hg4) (fun hHeld => ?_)
  clear hK K
  try (first | (rw [put_some]; dsimp only [List.set]) | rw [put_none])
  refine rtake 19 _ (some 3) _ rfl rfl (by kernel_rfl) (by kernel_rfl) (by kernel_rfl) (fun _ _ _ h => h) (by rfl) hHeld (by intro w hS; go_simp; try with_reducible rfl) ?_
  try (first | (rw [put_some]; dsimp only [List.set]) | rw [put_none])
  refine wpAnyH_done (by kernel_rfl) ?_ _
  refine NoPanic.normal ?_
  have hb5 : Below w.heap.size w w4 := hb3.drew.grown hg4 hb3g (fun k h => by cases h; exact Nat.le_refl _)
  have hszA := Lib.hid (show (Tryz.prog.info? 26).map (·.size) = some V.toArray.size by rw [List.size_toArray]; exact hsz.out)
  have R4 := Lib.hid (show w4.heap[w.heap.size]? = some (.cells V.toArray 26 (0, 0)) from hr4)
  clear hHeld hr4 hg4
  go_wp2_with fail
  exact ⟨rfl, _, results_row_tmp rfl _ _ w.heap.size 26 V.toArray (0, 0) _ rfl R4.out Tryz.underlying26 rfl hszA.out _ rfl, by rw [HF.out]; rfl, hb5⟩
end Go.Proofs.YtgnhmpfoddfpdaaGreatDoor

/- LAYER 12: the document's Parse of a text that isn't four bytes' and holds no '::'. -/
namespace Go.Proofs.YtgnhmpfoddfpdaaGreatDoor
set_option maxRecDepth 100000
open Go Go.RowKit

theorem findC_none_at (s : List UInt8) (h : findC s = none) (k : Nat) (hk : k + 1 < s.length) : ¬ (s.getD k 0 = 58 ∧ s.getD (k + 1) 0 = 58) := by
  induction s generalizing k with
  | nil => simp at hk
  | cons c s ih =>
    cases s with
    | nil => simp at hk
    | cons d s =>
      by_cases hcd : c = 58 ∧ d = 58
      · have : findC (c :: d :: s) = some 0 := if_pos hcd
        rw [this] at h; cases h
      · rw [findC_cons c d s hcd, Option.map_eq_none_iff] at h
        cases k with
        | zero => exact hcd
        | succ k => exact ih h k (by simpa using hk)
set_option maxHeartbeats 2000000 in
theorem rparse_plainA (s : List UInt8) (hs : s.length ≤ 1000) (hn : numbersL 10 3 255 46 s = none) (hf : findC s = none) (w : World) :
    Calls Tryz.prog 39 #[.string (bstr s)] w fun e w' => e = .returned (parsV (parse6 s)) ∧ Below w.heap.size w w' := by
  have hz := size_bstr s
  have hnum := Lib.hid (fun w' => rnumbers10_any s hs w')
  rw [hn] at hnum
  have hnum6 := Lib.hid (fun w' => rnumbers16_any s hs w')
  have HP0 := Lib.hid (show parse6 s = match numbersL 16 4 65535 58 s with | none => none | some l => if l.length = 8 ∧ textA (sixA l) = s then some (sixA l) else none by unfold parse6; rw [hf]; cases numbersL 16 4 65535 58 s <;> rfl)
  have HC := Lib.hid (findC_none_at s hf)
  have r0 : Row (w.alloc (.cells (adrV zeroA).toArray 26)) w.heap.size 26 (adrV zeroA) := Row.new w _ _
  have hb0 : Below w.heap.size w (w.alloc (.cells (adrV zeroA).toArray 26)) := (Below.refl _ w).alloc (Nat.le_refl _) _
  clear hf
  go_enter Tryz.func39, Tryz.ntmps39
  go_wp2_with (go_at_call 65; refine (hnum.out _).mono ?_; rintro e w3 ⟨v3, rfl, rfl, hb3⟩; have hr3 := r0.later hb3 r0.lt; have hb3 := hb0.trans (hb3.mono hb0.size))
  clear r0 hb0 hnum
  go_loopw [6, 7] (fun v i wr => v = .int .i64 (-1) ∧ ∃ k : Nat, k ≤ s.length ∧ i = .int .i64 k ∧ Row wr w.heap.size 26 (adrV zeroA) ∧ Below w.heap.size w wr) (fun _ i _ => s.length - (intOf i).toNat)
  case atStart => exact ⟨rfl, 0, by omega, rfl, hr3, hb3⟩
  case round =>
    clear hr3 hb3
    obtain ⟨rfl, k, hk, rfl, hr4, hb4⟩ := hrel
    have hw1 : IntKind.i64.wrap ((k : Int) + 1) = (k : Int) + 1 := by rw [IntKind.wrap_i64]; omega
    by_cases hlt : k + 1 < s.length
    · have hlt' : (k : Int) + 1 < (s.length : Int) := by omega
      have hix1 := index_bstr s k (by omega)
      have hix2 : ∀ w, (Instr.index 9 (.string (bstr s)) (.int .i64 ((k : Int) + 1))).run Tryz.prog w = .ok (.int .u8 ((s.getD (k + 1) 0).toNat : Int)) w := index_bstr s (k + 1) hlt
      have hno := HC.out k hlt
      generalize s.getD k 0 = x at *
      generalize s.getD (k + 1) 0 = y at *
      by_cases hx : x = 58
      · have hy : ((y.toNat : Int) == 58) = false := by
          rw [beq_eq_false_iff_ne]
          intro h
          exact hno ⟨hx, UInt8.toNat_inj.1 (by show y.toNat = 58; omega)⟩
        have hxe : ((x.toNat : Int) == 58) = true := by rw [hx]; rfl
        clear hno hx
        go_wp2
        go_roundw
        case rel => exact ⟨rfl, k + 1, by omega, by go_num, hr4, hb4⟩
        case measure => simp [intOf]; omega
      · have hxe : ((x.toNat : Int) == 58) = false := by
          rw [beq_eq_false_iff_ne]
          intro h
          exact hx (UInt8.toNat_inj.1 (by show x.toNat = 58; omega))
        clear hno hx
        go_wp2
        go_roundw
        case rel => exact ⟨rfl, k + 1, by omega, by go_num, hr4, hb4⟩
        case measure => simp [intOf]; omega
    · have hge : (s.length : Int) ≤ (k : Int) + 1 := by omega
      have hzz := Lib.hid (show (Tryz.prog.info? 26).map (·.size) = some (adrV zeroA).toArray.size by rw [size_adr, List.size_toArray, length_adrV zeroA_ok])
      have HZ1 := Lib.hid (show (adrV zeroA).toArray.all (·.oneCell') = true from all_one (adrV_one _))
      cases hn6 : numbersL 16 4 65535 58 s with
      | none =>
        have HP := Lib.hid (show parse6 s = none by rw [HP0.out, hn6])
        rw [hn6] at hnum6
        go_wp2_with (first
          | (go_at_call 65; refine (hnum6.out _).mono ?_; rintro e w5 ⟨v5, rfl, rfl, hb5⟩; have hr5 := hr4.later hb5 hr4.lt; have hb5 := hb4.trans (hb5.mono hb4.size); have H5 := Lib.hid (show w5.heap[w.heap.size]? = some (.cells (adrV zeroA).toArray 26 (0, 0)) from hr5))
          | (with_reducible refine wpList_store_row rfl 26 (.tmp 2) (.tmp 85) rfl w.heap.size _ rfl rfl 26 (adrV zeroA).toArray H5.out (by kernel_rfl) (by kernel_rfl) (by kernel_rfl) ?_; refine Hid.out ?_))
        refine Lib.hid ?_
        generalize hw6 : World.setRow _ _ _ = w6
        obtain ⟨r6, hg6⟩ := row_set hr5 (show World.setRow _ w.heap.size (adrV zeroA).toArray = w6 from hw6)
        have hb6 := hb5.grown hg6 hb5.size (fun k h => by cases h; exact Nat.le_refl _)
        have R6 := Lib.hid (show w6.heap[w.heap.size]? = some (.cells (adrV zeroA).toArray 26 (0, 0)) from r6)
        clear hw6 r6 hg6
        go_wp2_with fail
        exact ⟨rfl, _, results_row_tmp rfl _ _ w.heap.size 26 (adrV zeroA).toArray (0, 0) _ rfl R6.out Tryz.underlying26 rfl hzz.out _ rfl, by rw [HP.out]; rfl, hb6⟩
      | some l =>
        rw [hn6] at hnum6
        have hm := fun n hn => (((numbersL_iff 16 4 65535 58 (by omega) (by omega) (.inr rfl) s l).1 hn6).2 n hn).1
        by_cases h8 : l.length = 8
        · have hsx := Lib.hid (fun A c w' (hs : Sl w' A c (intsV l)) => rsix_any l h8 hm A c w' hs)
          have htx := Lib.hid (fun w' => rtextA_any (sixA l) (sixA_ok l h8) w')
          by_cases he : textA (sixA l) = s
          · have HP := Lib.hid (show parse6 s = some (sixA l) by rw [HP0.out, hn6]; exact if_pos ⟨h8, he⟩)
            have heq : ((bstr (textA (sixA l))).toList == (bstr s).toList) = true := by rw [bstr_beq]; exact decide_eq_true he
            have hVz := Lib.hid (show (Tryz.prog.info? 26).map (·.size) = some (adrV (sixA l)).toArray.size by rw [size_adr, List.size_toArray, length_adrV (sixA_ok l h8)])
            have hVs := Lib.hid (show (adrV zeroA).toArray.size = (adrV (sixA l)).toArray.size by rw [List.size_toArray, List.size_toArray, length_adrV zeroA_ok, length_adrV (sixA_ok l h8)])
            have hV1 := Lib.hid (show (adrV (sixA l)).toArray.all (·.oneCell') = true from all_one (adrV_one _))
            have HPV := Lib.hid (show parsV (parse6 s) = .tuple #[.agg (adrV (sixA l)).toArray, .bool true] by rw [HP.out]; rfl)
            generalize textA (sixA l) = X at *
            generalize adrV (sixA l) = V at *
            have tok1 : True := trivial
            clear hm he
            go_wp2_with (first
              | (go_at_call 65; refine (hnum6.out _).mono ?_; rintro e w5 ⟨v5, rfl, ⟨u, rfl, hown⟩, hb5⟩; obtain ⟨A, c, rfl, -, hsl⟩ := Sl.of_own hown; rw [h8]; have hr5 := hr4.later hb5 hr4.lt; have hb5 := hb4.trans (hb5.mono hb4.size); clear hown)
              | (have _t := tok1; go_at_call 67; refine (hsx.out A c _ hsl).mono ?_; rintro e w7 ⟨rfl, hb7⟩; have hr7 := hr5.later hb7 hr5.lt; have hsl7 := hsl.later (Nat.le_refl _) hb7; have hb7 := hb5.trans (hb7.mono hb5.size); clear tok1)
              | (go_at_call 67; refine (hsx.out A c _ hsl8).mono ?_; rintro e w9 ⟨rfl, hb9⟩; have hr9 := hr8.later hb9 hr8.lt; have hb9 := hb8.trans (hb9.mono hb8.size); have H9 := Lib.hid (show w9.heap[w.heap.size]? = some (.cells (adrV zeroA).toArray 26 (0, 0)) from hr9))
              | (go_at_call 66; refine (htx.out _).mono ?_; rintro e w8 ⟨rfl, hb8⟩; have hr8 := hr7.later hb8 hr7.lt; have hsl8 := hsl7.later (Nat.le_refl _) hb8; have hb8 := hb7.trans (hb8.mono hb7.size); have H8 := Lib.hid (show w8.heap[w.heap.size]? = some (.cells (adrV zeroA).toArray 26 (0, 0)) from hr8))
              | (with_reducible refine wpList_store_row rfl 26 (.tmp 2) (.tmp 87) rfl w.heap.size V.toArray rfl rfl 26 (adrV zeroA).toArray H9.out hVz.out hVs.out hV1.out ?_; refine Hid.out ?_))
            refine Lib.hid ?_
            generalize hw6 : World.setRow _ _ _ = w6
            obtain ⟨r6, hg6⟩ := row_set hr9 (show World.setRow _ w.heap.size V.toArray = w6 from hw6)
            have hb6 := hb9.grown hg6 hb9.size (fun k h => by cases h; exact Nat.le_refl _)
            have R6 := Lib.hid (show w6.heap[w.heap.size]? = some (.cells V.toArray 26 (0, 0)) from r6)
            clear hw6 r6 hg6
            go_wp2_with fail
            exact ⟨rfl, _, results_row_tmp rfl _ _ w.heap.size 26 V.toArray (0, 0) _ rfl R6.out Tryz.underlying26 rfl hVz.out _ rfl, by rw [HPV.out]; rfl, hb6⟩
          · have HP := Lib.hid (show parse6 s = none by rw [HP0.out, hn6]; exact if_neg (fun h => he h.2))
            have hne : ((bstr (textA (sixA l))).toList == (bstr s).toList) = false := by rw [bstr_beq]; exact decide_eq_false he
            generalize textA (sixA l) = X at *
            generalize adrV (sixA l) = V at *
            have tok1 : True := trivial
            clear hm he
            go_wp2_with (first
              | (go_at_call 65; refine (hnum6.out _).mono ?_; rintro e w5 ⟨v5, rfl, ⟨u, rfl, hown⟩, hb5⟩; obtain ⟨A, c, rfl, -, hsl⟩ := Sl.of_own hown; rw [h8]; have hr5 := hr4.later hb5 hr4.lt; have hb5 := hb4.trans (hb5.mono hb4.size); clear hown)
              | (have _t := tok1; go_at_call 67; refine (hsx.out A c _ hsl).mono ?_; rintro e w7 ⟨rfl, hb7⟩; have hr7 := hr5.later hb7 hr5.lt; have hsl7 := hsl.later (Nat.le_refl _) hb7; have hb7 := hb5.trans (hb7.mono hb5.size); clear tok1)
              | (go_at_call 66; refine (htx.out _).mono ?_; rintro e w8 ⟨rfl, hb8⟩; have hr8 := hr7.later hb8 hr7.lt; have hsl8 := hsl7.later (Nat.le_refl _) hb8; have hb8 := hb7.trans (hb8.mono hb7.size); have H8 := Lib.hid (show w8.heap[w.heap.size]? = some (.cells (adrV zeroA).toArray 26 (0, 0)) from hr8))
              | (with_reducible refine wpList_store_row rfl 26 (.tmp 2) (.tmp 85) rfl w.heap.size _ rfl rfl 26 (adrV zeroA).toArray H8.out (by kernel_rfl) (by kernel_rfl) (by kernel_rfl) ?_; refine Hid.out ?_))
            refine Lib.hid ?_
            generalize hw6 : World.setRow _ _ _ = w6
            obtain ⟨r6, hg6⟩ := row_set hr8 (show World.setRow _ w.heap.size (adrV zeroA).toArray = w6 from hw6)
            have hb6 := hb8.grown hg6 hb8.size (fun k h => by cases h; exact Nat.le_refl _)
            have R6 := Lib.hid (show w6.heap[w.heap.size]? = some (.cells (adrV zeroA).toArray 26 (0, 0)) from r6)
            clear hw6 r6 hg6
            go_wp2_with fail
            exact ⟨rfl, _, results_row_tmp rfl _ _ w.heap.size 26 (adrV zeroA).toArray (0, 0) _ rfl R6.out Tryz.underlying26 rfl hzz.out _ rfl, by rw [HP.out]; rfl, hb6⟩
        · have HP := Lib.hid (show parse6 s = none by rw [HP0.out, hn6]; exact if_neg (fun h => h8 h.1))
          have h8' : ((l.length : Int) == 8) = false := by rw [beq_eq_false_iff_ne]; omega
          clear hm
          go_wp2_with (first
            | (go_at_call 65; refine (hnum6.out _).mono ?_; rintro e w5 ⟨v5, rfl, ⟨u, rfl, hown⟩, hb5⟩; have hr5 := hr4.later hb5 hr4.lt; have hb5 := hb4.trans (hb5.mono hb4.size); have H5 := Lib.hid (show w5.heap[w.heap.size]? = some (.cells (adrV zeroA).toArray 26 (0, 0)) from hr5); obtain ⟨A, c, rfl, -, hsl⟩ := Sl.of_own hown; clear hown)
            | (with_reducible refine wpList_store_row rfl 26 (.tmp 2) (.tmp 85) rfl w.heap.size _ rfl rfl 26 (adrV zeroA).toArray H5.out (by kernel_rfl) (by kernel_rfl) (by kernel_rfl) ?_; refine Hid.out ?_))
          refine Lib.hid ?_
          generalize hw6 : World.setRow _ _ _ = w6
          obtain ⟨r6, hg6⟩ := row_set hr5 (show World.setRow _ w.heap.size (adrV zeroA).toArray = w6 from hw6)
          have hb6 := hb5.grown hg6 hb5.size (fun k h => by cases h; exact Nat.le_refl _)
          have R6 := Lib.hid (show w6.heap[w.heap.size]? = some (.cells (adrV zeroA).toArray 26 (0, 0)) from r6)
          clear hw6 r6 hg6
          go_wp2_with fail
          exact ⟨rfl, _, results_row_tmp rfl _ _ w.heap.size 26 (adrV zeroA).toArray (0, 0) _ rfl R6.out Tryz.underlying26 rfl hzz.out _ rfl, by rw [HP.out]; rfl, hb6⟩
set_option maxHeartbeats 2000000 in
theorem rparse_plainB (s : List UInt8) (hs : s.length ≤ 1000) (l0 : List Nat) (hn : numbersL 10 3 255 46 s = some l0) (h40 : l0.length ≠ 4) (hf : findC s = none) (w : World) :
    Calls Tryz.prog 39 #[.string (bstr s)] w fun e w' => e = .returned (parsV (parse6 s)) ∧ Below w.heap.size w w' := by
  have hz := size_bstr s
  have hnum := Lib.hid (fun w' => rnumbers10_any s hs w')
  rw [hn] at hnum
  have hnum6 := Lib.hid (fun w' => rnumbers16_any s hs w')
  have HP0 := Lib.hid (show parse6 s = match numbersL 16 4 65535 58 s with | none => none | some l => if l.length = 8 ∧ textA (sixA l) = s then some (sixA l) else none by unfold parse6; rw [hf]; cases numbersL 16 4 65535 58 s <;> rfl)
  have HC := Lib.hid (findC_none_at s hf)
  have r0 : Row (w.alloc (.cells (adrV zeroA).toArray 26)) w.heap.size 26 (adrV zeroA) := Row.new w _ _
  have hb0 : Below w.heap.size w (w.alloc (.cells (adrV zeroA).toArray 26)) := (Below.refl _ w).alloc (Nat.le_refl _) _
  have h4' : ((l0.length : Int) == 4) = false := by rw [beq_eq_false_iff_ne]; omega
  clear hf
  go_enter Tryz.func39, Tryz.ntmps39
  go_wp2_with (go_at_call 65; refine (hnum.out _).mono ?_; rintro e w3 ⟨v3, rfl, ⟨u0, rfl, hown0⟩, hb3⟩; obtain ⟨A0, c0, rfl, -, -⟩ := Sl.of_own hown0; clear hown0; have hr3 := r0.later hb3 r0.lt; have hb3 := hb0.trans (hb3.mono hb0.size))
  clear r0 hb0 hnum
  go_loopw [6, 7] (fun v i wr => v = .int .i64 (-1) ∧ ∃ k : Nat, k ≤ s.length ∧ i = .int .i64 k ∧ Row wr w.heap.size 26 (adrV zeroA) ∧ Below w.heap.size w wr) (fun _ i _ => s.length - (intOf i).toNat)
  case atStart => exact ⟨rfl, 0, by omega, rfl, hr3, hb3⟩
  case round =>
    clear hr3 hb3
    obtain ⟨rfl, k, hk, rfl, hr4, hb4⟩ := hrel
    have hw1 : IntKind.i64.wrap ((k : Int) + 1) = (k : Int) + 1 := by rw [IntKind.wrap_i64]; omega
    by_cases hlt : k + 1 < s.length
    · have hlt' : (k : Int) + 1 < (s.length : Int) := by omega
      have hix1 := index_bstr s k (by omega)
      have hix2 : ∀ w, (Instr.index 9 (.string (bstr s)) (.int .i64 ((k : Int) + 1))).run Tryz.prog w = .ok (.int .u8 ((s.getD (k + 1) 0).toNat : Int)) w := index_bstr s (k + 1) hlt
      have hno := HC.out k hlt
      generalize s.getD k 0 = x at *
      generalize s.getD (k + 1) 0 = y at *
      by_cases hx : x = 58
      · have hy : ((y.toNat : Int) == 58) = false := by
          rw [beq_eq_false_iff_ne]
          intro h
          exact hno ⟨hx, UInt8.toNat_inj.1 (by show y.toNat = 58; omega)⟩
        have hxe : ((x.toNat : Int) == 58) = true := by rw [hx]; rfl
        clear hno hx
        go_wp2
        go_roundw
        case rel => exact ⟨rfl, k + 1, by omega, by go_num, hr4, hb4⟩
        case measure => simp [intOf]; omega
      · have hxe : ((x.toNat : Int) == 58) = false := by
          rw [beq_eq_false_iff_ne]
          intro h
          exact hx (UInt8.toNat_inj.1 (by show x.toNat = 58; omega))
        clear hno hx
        go_wp2
        go_roundw
        case rel => exact ⟨rfl, k + 1, by omega, by go_num, hr4, hb4⟩
        case measure => simp [intOf]; omega
    · have hge : (s.length : Int) ≤ (k : Int) + 1 := by omega
      have hzz := Lib.hid (show (Tryz.prog.info? 26).map (·.size) = some (adrV zeroA).toArray.size by rw [size_adr, List.size_toArray, length_adrV zeroA_ok])
      have HZ1 := Lib.hid (show (adrV zeroA).toArray.all (·.oneCell') = true from all_one (adrV_one _))
      cases hn6 : numbersL 16 4 65535 58 s with
      | none =>
        have HP := Lib.hid (show parse6 s = none by rw [HP0.out, hn6])
        rw [hn6] at hnum6
        go_wp2_with (first
          | (go_at_call 65; refine (hnum6.out _).mono ?_; rintro e w5 ⟨v5, rfl, rfl, hb5⟩; have hr5 := hr4.later hb5 hr4.lt; have hb5 := hb4.trans (hb5.mono hb4.size); have H5 := Lib.hid (show w5.heap[w.heap.size]? = some (.cells (adrV zeroA).toArray 26 (0, 0)) from hr5))
          | (with_reducible refine wpList_store_row rfl 26 (.tmp 2) (.tmp 85) rfl w.heap.size _ rfl rfl 26 (adrV zeroA).toArray H5.out (by kernel_rfl) (by kernel_rfl) (by kernel_rfl) ?_; refine Hid.out ?_))
        refine Lib.hid ?_
        generalize hw6 : World.setRow _ _ _ = w6
        obtain ⟨r6, hg6⟩ := row_set hr5 (show World.setRow _ w.heap.size (adrV zeroA).toArray = w6 from hw6)
        have hb6 := hb5.grown hg6 hb5.size (fun k h => by cases h; exact Nat.le_refl _)
        have R6 := Lib.hid (show w6.heap[w.heap.size]? = some (.cells (adrV zeroA).toArray 26 (0, 0)) from r6)
        clear hw6 r6 hg6
        go_wp2_with fail
        exact ⟨rfl, _, results_row_tmp rfl _ _ w.heap.size 26 (adrV zeroA).toArray (0, 0) _ rfl R6.out Tryz.underlying26 rfl hzz.out _ rfl, by rw [HP.out]; rfl, hb6⟩
      | some l =>
        rw [hn6] at hnum6
        have hm := fun n hn => (((numbersL_iff 16 4 65535 58 (by omega) (by omega) (.inr rfl) s l).1 hn6).2 n hn).1
        by_cases h8 : l.length = 8
        · have hsx := Lib.hid (fun A c w' (hs : Sl w' A c (intsV l)) => rsix_any l h8 hm A c w' hs)
          have htx := Lib.hid (fun w' => rtextA_any (sixA l) (sixA_ok l h8) w')
          by_cases he : textA (sixA l) = s
          · have HP := Lib.hid (show parse6 s = some (sixA l) by rw [HP0.out, hn6]; exact if_pos ⟨h8, he⟩)
            have heq : ((bstr (textA (sixA l))).toList == (bstr s).toList) = true := by rw [bstr_beq]; exact decide_eq_true he
            have hVz := Lib.hid (show (Tryz.prog.info? 26).map (·.size) = some (adrV (sixA l)).toArray.size by rw [size_adr, List.size_toArray, length_adrV (sixA_ok l h8)])
            have hVs := Lib.hid (show (adrV zeroA).toArray.size = (adrV (sixA l)).toArray.size by rw [List.size_toArray, List.size_toArray, length_adrV zeroA_ok, length_adrV (sixA_ok l h8)])
            have hV1 := Lib.hid (show (adrV (sixA l)).toArray.all (·.oneCell') = true from all_one (adrV_one _))
            have HPV := Lib.hid (show parsV (parse6 s) = .tuple #[.agg (adrV (sixA l)).toArray, .bool true] by rw [HP.out]; rfl)
            generalize textA (sixA l) = X at *
            generalize adrV (sixA l) = V at *
            have tok1 : True := trivial
            clear hm he
            go_wp2_with (first
              | (go_at_call 65; refine (hnum6.out _).mono ?_; rintro e w5 ⟨v5, rfl, ⟨u, rfl, hown⟩, hb5⟩; obtain ⟨A, c, rfl, -, hsl⟩ := Sl.of_own hown; rw [h8]; have hr5 := hr4.later hb5 hr4.lt; have hb5 := hb4.trans (hb5.mono hb4.size); clear hown)
              | (have _t := tok1; go_at_call 67; refine (hsx.out A c _ hsl).mono ?_; rintro e w7 ⟨rfl, hb7⟩; have hr7 := hr5.later hb7 hr5.lt; have hsl7 := hsl.later (Nat.le_refl _) hb7; have hb7 := hb5.trans (hb7.mono hb5.size); clear tok1)
              | (go_at_call 67; refine (hsx.out A c _ hsl8).mono ?_; rintro e w9 ⟨rfl, hb9⟩; have hr9 := hr8.later hb9 hr8.lt; have hb9 := hb8.trans (hb9.mono hb8.size); have H9 := Lib.hid (show w9.heap[w.heap.size]? = some (.cells (adrV zeroA).toArray 26 (0, 0)) from hr9))
              | (go_at_call 66; refine (htx.out _).mono ?_; rintro e w8 ⟨rfl, hb8⟩; have hr8 := hr7.later hb8 hr7.lt; have hsl8 := hsl7.later (Nat.le_refl _) hb8; have hb8 := hb7.trans (hb8.mono hb7.size); have H8 := Lib.hid (show w8.heap[w.heap.size]? = some (.cells (adrV zeroA).toArray 26 (0, 0)) from hr8))
              | (with_reducible refine wpList_store_row rfl 26 (.tmp 2) (.tmp 87) rfl w.heap.size V.toArray rfl rfl 26 (adrV zeroA).toArray H9.out hVz.out hVs.out hV1.out ?_; refine Hid.out ?_))
            refine Lib.hid ?_
            generalize hw6 : World.setRow _ _ _ = w6
            obtain ⟨r6, hg6⟩ := row_set hr9 (show World.setRow _ w.heap.size V.toArray = w6 from hw6)
            have hb6 := hb9.grown hg6 hb9.size (fun k h => by cases h; exact Nat.le_refl _)
            have R6 := Lib.hid (show w6.heap[w.heap.size]? = some (.cells V.toArray 26 (0, 0)) from r6)
            clear hw6 r6 hg6
            go_wp2_with fail
            exact ⟨rfl, _, results_row_tmp rfl _ _ w.heap.size 26 V.toArray (0, 0) _ rfl R6.out Tryz.underlying26 rfl hVz.out _ rfl, by rw [HPV.out]; rfl, hb6⟩
          · have HP := Lib.hid (show parse6 s = none by rw [HP0.out, hn6]; exact if_neg (fun h => he h.2))
            have hne : ((bstr (textA (sixA l))).toList == (bstr s).toList) = false := by rw [bstr_beq]; exact decide_eq_false he
            generalize textA (sixA l) = X at *
            generalize adrV (sixA l) = V at *
            have tok1 : True := trivial
            clear hm he
            go_wp2_with (first
              | (go_at_call 65; refine (hnum6.out _).mono ?_; rintro e w5 ⟨v5, rfl, ⟨u, rfl, hown⟩, hb5⟩; obtain ⟨A, c, rfl, -, hsl⟩ := Sl.of_own hown; rw [h8]; have hr5 := hr4.later hb5 hr4.lt; have hb5 := hb4.trans (hb5.mono hb4.size); clear hown)
              | (have _t := tok1; go_at_call 67; refine (hsx.out A c _ hsl).mono ?_; rintro e w7 ⟨rfl, hb7⟩; have hr7 := hr5.later hb7 hr5.lt; have hsl7 := hsl.later (Nat.le_refl _) hb7; have hb7 := hb5.trans (hb7.mono hb5.size); clear tok1)
              | (go_at_call 66; refine (htx.out _).mono ?_; rintro e w8 ⟨rfl, hb8⟩; have hr8 := hr7.later hb8 hr7.lt; have hsl8 := hsl7.later (Nat.le_refl _) hb8; have hb8 := hb7.trans (hb8.mono hb7.size); have H8 := Lib.hid (show w8.heap[w.heap.size]? = some (.cells (adrV zeroA).toArray 26 (0, 0)) from hr8))
              | (with_reducible refine wpList_store_row rfl 26 (.tmp 2) (.tmp 85) rfl w.heap.size _ rfl rfl 26 (adrV zeroA).toArray H8.out (by kernel_rfl) (by kernel_rfl) (by kernel_rfl) ?_; refine Hid.out ?_))
            refine Lib.hid ?_
            generalize hw6 : World.setRow _ _ _ = w6
            obtain ⟨r6, hg6⟩ := row_set hr8 (show World.setRow _ w.heap.size (adrV zeroA).toArray = w6 from hw6)
            have hb6 := hb8.grown hg6 hb8.size (fun k h => by cases h; exact Nat.le_refl _)
            have R6 := Lib.hid (show w6.heap[w.heap.size]? = some (.cells (adrV zeroA).toArray 26 (0, 0)) from r6)
            clear hw6 r6 hg6
            go_wp2_with fail
            exact ⟨rfl, _, results_row_tmp rfl _ _ w.heap.size 26 (adrV zeroA).toArray (0, 0) _ rfl R6.out Tryz.underlying26 rfl hzz.out _ rfl, by rw [HP.out]; rfl, hb6⟩
        · have HP := Lib.hid (show parse6 s = none by rw [HP0.out, hn6]; exact if_neg (fun h => h8 h.1))
          have h8' : ((l.length : Int) == 8) = false := by rw [beq_eq_false_iff_ne]; omega
          clear hm
          go_wp2_with (first
            | (go_at_call 65; refine (hnum6.out _).mono ?_; rintro e w5 ⟨v5, rfl, ⟨u, rfl, hown⟩, hb5⟩; have hr5 := hr4.later hb5 hr4.lt; have hb5 := hb4.trans (hb5.mono hb4.size); have H5 := Lib.hid (show w5.heap[w.heap.size]? = some (.cells (adrV zeroA).toArray 26 (0, 0)) from hr5); obtain ⟨A, c, rfl, -, hsl⟩ := Sl.of_own hown; clear hown)
            | (with_reducible refine wpList_store_row rfl 26 (.tmp 2) (.tmp 85) rfl w.heap.size _ rfl rfl 26 (adrV zeroA).toArray H5.out (by kernel_rfl) (by kernel_rfl) (by kernel_rfl) ?_; refine Hid.out ?_))
          refine Lib.hid ?_
          generalize hw6 : World.setRow _ _ _ = w6
          obtain ⟨r6, hg6⟩ := row_set hr5 (show World.setRow _ w.heap.size (adrV zeroA).toArray = w6 from hw6)
          have hb6 := hb5.grown hg6 hb5.size (fun k h => by cases h; exact Nat.le_refl _)
          have R6 := Lib.hid (show w6.heap[w.heap.size]? = some (.cells (adrV zeroA).toArray 26 (0, 0)) from r6)
          clear hw6 r6 hg6
          go_wp2_with fail
          exact ⟨rfl, _, results_row_tmp rfl _ _ w.heap.size 26 (adrV zeroA).toArray (0, 0) _ rfl R6.out Tryz.underlying26 rfl hzz.out _ rfl, by rw [HP.out]; rfl, hb6⟩
end Go.Proofs.YtgnhmpfoddfpdaaGreatDoor

/- LAYER 12: package addr: Parse. -/
namespace Go.Proofs.YtgnhmpfoddfpdaaGreatDoor
set_option maxRecDepth 100000
open Go Go.RowKit

set_option maxHeartbeats 4000000 in
theorem aparse_any (s : List UInt8) (hs : s.length ≤ 100000) (w : World) (hE : Env w) :
    Calls Tryz.prog 61 #[.string (bstr s)] w fun e w' => e = .returned (parsV (parseL s)) ∧ Below w.heap.size w w' := by
  have hrd := Lib.hid (fun w' hE => aread_any s hs w' hE)
  have hok := readF_ok s
  have htx := Lib.hid (fun w' hE => atext_any (readF s) hok w' hE)
  have HP := Lib.hid (parse_read s)
  obtain ⟨V, hV⟩ : ∃ V, V = adrV (readF s) := ⟨_, rfl⟩
  obtain ⟨Z, hZ⟩ : ∃ Z, Z = adrV zeroA := ⟨_, rfl⟩
  have hVl : V.length = 17 := by rw [hV]; exact length_adrV hok
  have hZl : Z.length = 17 := by rw [hZ]; exact length_adrV zeroA_ok
  have hsz := Lib.hid (show (Tryz.prog.info? 26).map (·.size) = some V.toArray.size by rw [size_adr, List.size_toArray, hVl])
  have hszZ := Lib.hid (show (Tryz.prog.info? 26).map (·.size) = some Z.toArray.size by rw [size_adr, List.size_toArray, hZl])
  have hV1 := Lib.hid (show V.toArray.all (·.oneCell') = true from all_one (by rw [hV]; exact adrV_one _))
  have hZ1 := Lib.hid (show Z.toArray.all (·.oneCell') = true from all_one (by rw [hZ]; exact adrV_one _))
  have hVs := Lib.hid (show Z.toArray.size = V.toArray.size by rw [List.size_toArray, List.size_toArray, hVl, hZl])
  have HPs := Lib.hid (show ∀ b, (b = true → textA (readF s) = s) → (b = false → textA (readF s) ≠ s) → parsV (parseL s) = .tuple #[.agg (if b then V else Z).toArray, .bool b] by
    intro b h1 h2
    rw [HP.out]
    cases b with
    | true => rw [if_pos (h1 rfl), hV]; rfl
    | false => rw [if_neg (h2 rfl), hZ]; rfl)
  rw [← hV] at hrd htx
  have htl := bstr_beq (textA (readF s)) s
  have h17 := Lib.hid (show 17 = V.toArray.size by rw [List.size_toArray, hVl])
  obtain ⟨w1, hw1⟩ : ∃ w1, w1 = w.alloc (.cells (adrV zeroA).toArray 26) := ⟨_, rfl⟩
  have r1 : Row w1 w.heap.size 26 Z := by rw [hw1, hZ]; exact Row.new w _ _
  have hb1 : Below w.heap.size w w1 := by rw [hw1]; exact (Below.refl _ w).alloc (Nat.le_refl _) _
  have hE1 := hE.next hb1
  by_cases hT : textA (readF s) = s
  · have HX := Lib.hid (show parsV (parseL s) = .tuple #[.agg V.toArray, .bool true] from HPs.out true (fun _ => hT) (fun h => by cases h))
    rw [decide_eq_true hT] at htl
    clear hV hZ hok hE HPs HP hT hVl hZl
    generalize textA (readF s) = X at *
    generalize bstr X = T at *
    generalize hSe : bstr s = S at *
    clear hSe
    go_enter Tryz.func61, Tryz.ntmps61
    go_wp2_with (first
      | (go_at_call 94; change Calls _ _ _ (w.alloc (.cells (adrV zeroA).toArray 26)) _; rw [← hw1]; clear hw1; refine (hrd.out _ hE1).mono ?_; rintro e w2 ⟨rfl, hb2⟩; have r2 := r1.later hb2 r1.lt; have hE2 := hE1.next hb2; have hb2 := hb1.trans (hb2.mono hb1.size))
      | (have _t := hE2; refine wpList_store_row rfl 26 (.tmp 4) (.tmp 6) rfl w2.heap.size V.toArray rfl rfl 26 _ (heap_alloc_new w2 _) hsz.out h17.out hV1.out ?_; refine Hid.out ?_))
    refine Lib.hid ?_
    generalize hw3 : World.setRow _ _ _ = w3
    obtain ⟨r3, hb3'⟩ := row_new_set hw3
    have hE3 := hE2.next hb3'
    have r3b := r2.later hb3' r2.lt
    have hb3 := hb2.trans (hb3'.mono hb2.size)
    have hlt3 := r2.lt
    have HR3 := Lib.hid (show w3.heap[w2.heap.size]? = some (.cells V.toArray 26 (0, 0)) from r3)
    clear hw3 hb3'
    have tok2 : True := trivial
    go_wp2_with (first
      | (have _t := tok2; with_reducible refine wpList_load_row rfl 26 (.tmp 4) rfl w2.heap.size rfl 26 V.toArray (0, 0) _ HR3.out Tryz.underlying26 rfl hsz.out ?_; clear tok2)
      | (go_at_call 76; refine (htx.out _ hE3).mono ?_; rintro e w4 ⟨rfl, hb4⟩; have r4 := r3.later hb4 r3.lt; have r4b := r3b.later hb4 r3b.lt; have hb4 := hb3.trans (hb4.mono hb3.size); have HR4 := Lib.hid (show w4.heap[w2.heap.size]? = some (.cells V.toArray 26 (0, 0)) from r4); have H4 := Lib.hid (show w4.heap[w.heap.size]? = some (.cells Z.toArray 26 (0, 0)) from r4b); clear r3 r3b r4 r4b)
      | (with_reducible refine wpList_load_row rfl 26 (.tmp 4) rfl w2.heap.size rfl 26 V.toArray (0, 0) _ HR4.out Tryz.underlying26 rfl hsz.out ?_)
      | (with_reducible refine wpList_store_row rfl 26 (.tmp 2) (.tmp 12) rfl w.heap.size V.toArray rfl rfl 26 Z.toArray H4.out hsz.out hVs.out hV1.out ?_; refine Hid.out ?_))
    refine Lib.hid ?_
    generalize hw8 : World.setRow _ _ _ = w8
    obtain ⟨r8, hg8⟩ := row_set (show Row w4 w.heap.size 26 Z from H4.out) hw8
    have hb8 := hb4.grown hg8 hb4.size (fun k h => by cases h; exact Nat.le_refl _)
    have R8 := Lib.hid (show w8.heap[w.heap.size]? = some (.cells V.toArray 26 (0, 0)) from r8)
    clear hw8 r8 hg8 H4 HR4
    go_wp2_with fail
    exact ⟨rfl, _, results_row_tmp rfl _ _ w.heap.size 26 V.toArray (0, 0) _ rfl R8.out Tryz.underlying26 rfl hsz.out _ rfl, by rw [HX.out]; rfl, hb8⟩
  · have HX := Lib.hid (show parsV (parseL s) = .tuple #[.agg Z.toArray, .bool false] from HPs.out false (fun h => by cases h) (fun _ => hT))
    rw [decide_eq_false hT] at htl
    have HZ := Lib.hid hZ
    clear hV hZ hok hE HPs HP hT hVl hZl
    generalize textA (readF s) = X at *
    generalize bstr X = T at *
    generalize hSe : bstr s = S at *
    clear hSe
    go_enter Tryz.func61, Tryz.ntmps61
    go_wp2_with (first
      | (go_at_call 94; change Calls _ _ _ (w.alloc (.cells (adrV zeroA).toArray 26)) _; rw [← hw1]; clear hw1; refine (hrd.out _ hE1).mono ?_; rintro e w2 ⟨rfl, hb2⟩; have r2 := r1.later hb2 r1.lt; have hE2 := hE1.next hb2; have hb2 := hb1.trans (hb2.mono hb1.size))
      | (have _t := hE2; refine wpList_store_row rfl 26 (.tmp 4) (.tmp 6) rfl w2.heap.size V.toArray rfl rfl 26 _ (heap_alloc_new w2 _) hsz.out h17.out hV1.out ?_; refine Hid.out ?_))
    refine Lib.hid ?_
    generalize hw3 : World.setRow _ _ _ = w3
    obtain ⟨r3, hb3'⟩ := row_new_set hw3
    have hE3 := hE2.next hb3'
    have r3b := r2.later hb3' r2.lt
    have hb3 := hb2.trans (hb3'.mono hb2.size)
    have hlt3 := r2.lt
    have HR3 := Lib.hid (show w3.heap[w2.heap.size]? = some (.cells V.toArray 26 (0, 0)) from r3)
    clear hw3 hb3'
    have tok2 : True := trivial
    go_wp2_with (first
      | (have _t := tok2; with_reducible refine wpList_load_row rfl 26 (.tmp 4) rfl w2.heap.size rfl 26 V.toArray (0, 0) _ HR3.out Tryz.underlying26 rfl hsz.out ?_; clear tok2)
      | (go_at_call 76; refine (htx.out _ hE3).mono ?_; rintro e w4 ⟨rfl, hb4⟩; have r4 := r3.later hb4 r3.lt; have r4b := r3b.later hb4 r3b.lt; have hb4 := hb3.trans (hb4.mono hb3.size); have HR4 := Lib.hid (show w4.heap[w2.heap.size]? = some (.cells V.toArray 26 (0, 0)) from r4); have H4 := Lib.hid (show w4.heap[w.heap.size]? = some (.cells Z.toArray 26 (0, 0)) from r4b); clear r3 r3b r4 r4b)
      | (have _t := H4; refine wpList_store_row rfl 26 (.tmp 2) (.tmp 11) rfl w.heap.size Z.toArray rfl (by rw [HZ.out]; rfl) 26 Z.toArray H4.out hszZ.out rfl hZ1.out ?_; refine Hid.out ?_))
    refine Lib.hid ?_
    generalize hw8 : World.setRow _ _ _ = w8
    obtain ⟨r8, hg8⟩ := row_set (show Row w4 w.heap.size 26 Z from H4.out) hw8
    have hb8 := hb4.grown hg8 hb4.size (fun k h => by cases h; exact Nat.le_refl _)
    have R8 := Lib.hid (show w8.heap[w.heap.size]? = some (.cells Z.toArray 26 (0, 0)) from r8)
    clear hw8 r8 hg8 H4 HR4
    go_wp2_with fail
    exact ⟨rfl, _, results_row_tmp rfl _ _ w.heap.size 26 Z.toArray (0, 0) _ rfl R8.out Tryz.underlying26 rfl hszZ.out _ rfl, by rw [HX.out]; rfl, hb8⟩
end Go.Proofs.YtgnhmpfoddfpdaaGreatDoor

/- LAYER 13: package net: Has, Check, Within; ranges compared. -/
namespace Go.Proofs.YtgnhmpfoddfpdaaGreatDoor
set_option maxRecDepth 100000
open Go Go.RowKit

theorem hasR_eq (r : Rng) (a : Adr) (h : ofOk a r.n = true) : hasR r a = ((a.v6 == r.a.v6 && decide (topL a.b r.n.toNat = r.a.b)) && r.n == r.n) := by
  unfold hasR
  rw [h, Bool.true_and, beq_self_eq_true, Bool.and_true]
set_option maxHeartbeats 4000000 in
theorem ahas_any (r : Rng) (h : r.Ok) (a : Adr) (ha : a.Ok) (w : World) :
    Calls Tryz.prog 112 #[.agg (rngV r).toArray, .agg (adrV a).toArray] w fun e w' => e = .returned (.bool (hasR r a)) ∧ Below w.heap.size w w' := by
  have hof := Lib.hid (fun w' => aof_any a ha r.n w')
  have hXo := ofR_ok a r.n h.lo h.hi
  obtain ⟨R, hR⟩ : ∃ R, R = rngV r := ⟨_, rfl⟩
  obtain ⟨X, hX⟩ : ∃ X, X = rngV (ofR a r.n) := ⟨_, rfl⟩
  obtain ⟨V2, hV2⟩ : ∃ V2, V2 = adrV a := ⟨_, rfl⟩
  have HR := Lib.hid (show R = adrV r.a ++ [Value.int .i64 r.n] by rw [hR]; rfl)
  have HRl := Lib.hid (length_adrV h.a)
  have hzA := Lib.hid (show (Tryz.prog.info? 26).map (·.size) = some V2.length by rw [hV2, length_adrV ha]; exact size_adr)
  have hzR := Lib.hid (show (Tryz.prog.info? 28).map (·.size) = some R.length by rw [hR, length_rngV' r h.a]; exact size_rng)
  have hzX := Lib.hid (show (Tryz.prog.info? 28).map (·.size) = some X.length by rw [hX, length_rngV' _ hXo.a]; exact size_rng)
  have hzX2 := Lib.hid (show (Tryz.prog.info? 28).map (·.size) = some X.toArray.size by rw [List.size_toArray]; exact hzX.out)
  have h18 := Lib.hid (show 18 = X.toArray.size by rw [hX, List.size_toArray, length_rngV' _ hXo.a])
  have hX1 := Lib.hid (show X.toArray.all (·.oneCell') = true by rw [hX]; exact rngV_one' _)
  obtain ⟨w1, hw1⟩ : ∃ w1, w1 = (w.alloc (.cells R.toArray 28)).alloc (.cells V2.toArray 26) := ⟨_, rfl⟩
  obtain ⟨r1, q1, hb1, -⟩ := two_rows hw1.symm
  have HW := Lib.hid hw1
  have hcn := rng_n' HRl.out HR.out r1
  have hEq : ofOk a r.n = true → ∀ w, (Op.equalIn 10000 28 (.agg X.toArray) (.agg R.toArray)).run Tryz.prog w = .ok (hasR r a) w := by
    intro ho w'
    rw [hX, hR, eq_rng _ _ hXo.a h.a, hasR_eq r a ho, ofR_good a r.n ho]; rfl
  rw [← hX, ← hV2] at hof
  rw [← hR, ← hV2]
  clear hR hX hV2 hw1
  have tok1 : True := trivial
  cases ho : ofOk a r.n with
  | false =>
    have HC := Lib.hid (show hasR r a = false by unfold hasR; rw [ho]; rfl)
    rw [ho] at hof
    generalize r.n = n at *
    clear hEq ho
    go_enter Tryz.func112, Tryz.ntmps112
    go_wp2_with (first
      | (have _t := tok1; rw [← HW.out]; clear tok1; with_reducible refine wpList_load_mid rfl 26 (.tmp 3) rfl (w.heap.size + 1) 0 rfl V2 _ (row_range q1) Tryz.underlying26 rfl hzA.out ?_)
      | (go_at_call 152; refine (hof.out _).mono ?_; rintro e w2 ⟨rfl, hb2⟩; have hb2 := hb1.trans (hb2.mono hb1.size))
      | (have _t := hb2; refine wpList_store_row rfl 28 (.tmp 5) (.tmp 12) rfl w2.heap.size X.toArray rfl rfl 28 _ (heap_alloc_new w2 _) hzX2.out h18.out hX1.out ?_; refine Hid.out ?_))
    refine Lib.hid ?_
    generalize hw4 : World.setRow _ _ _ = w4
    obtain ⟨-, hb4'⟩ := row_new_set (xs := X) hw4
    have hb4 := hb2.trans (hb4'.mono hb2.size)
    clear hw4 hb4'
    go_wp2_with fail
    go_ret
    exact ⟨by rw [HC.out]; rfl, hb4⟩
  | true =>
    have hEq := hEq ho
    rw [ho] at hof
    generalize r.n = n at *
    generalize hasR r a = D at *
    clear ho
    go_enter Tryz.func112, Tryz.ntmps112
    go_wp2_with (first
      | (have _t := tok1; rw [← HW.out]; clear tok1; with_reducible refine wpList_load_mid rfl 26 (.tmp 3) rfl (w.heap.size + 1) 0 rfl V2 _ (row_range q1) Tryz.underlying26 rfl hzA.out ?_)
      | (go_at_call 152; refine (hof.out _).mono ?_; rintro e w2 ⟨rfl, hb2⟩; have r2 := r1.later hb2 r1.lt; have hb2 := hb1.trans (hb2.mono hb1.size))
      | (have _t := hb2; refine wpList_store_row rfl 28 (.tmp 5) (.tmp 12) rfl w2.heap.size X.toArray rfl rfl 28 _ (heap_alloc_new w2 _) hzX2.out h18.out hX1.out ?_; refine Hid.out ?_))
    refine Lib.hid ?_
    generalize hw4 : World.setRow _ _ _ = w4
    obtain ⟨x4, hb4'⟩ := row_new_set (xs := X) hw4
    have r4 := r2.later hb4' r2.lt
    have hb4 := hb2.trans (hb4'.mono hb2.size)
    clear hw4 hb4' r1 r2 q1 hcn
    generalize w2.heap.size = g at *
    have tok2 : True := trivial
    go_wp2_with (first
      | (have _t := tok2; refine wpList_step fun K hK => ?_; refine step_load_mid (some 16) rfl (by rfl) 28 (.tmp 5) rfl g 0 rfl X _ (row_range x4) Tryz.underlying28 rfl hzX.out ?_; refine hK _ _ ?_; clear hK tok2)
      | (refine wpList_step fun K hK => ?_; refine step_load_mid (some 17) rfl (by rfl) 28 (.tmp 2) rfl w.heap.size 0 rfl R _ (row_range r4) Tryz.underlying28 rfl hzR.out ?_; refine hK _ _ ?_; clear hK))
    go_ret
    exact ⟨rfl, hb4⟩
set_option maxHeartbeats 2000000 in
theorem acheckR_any (r : Rng) (h : r.Ok) (w : World) :
    Calls Tryz.prog 75 #[.agg (rngV r).toArray] w fun e w' => e = .returned (.bool (checkR r)) ∧ Below w.heap.size w w' := by
  have hh := Lib.hid (fun w' => show Calls Tryz.prog 112 #[.agg (rngV r).toArray, .agg (adrV r.a).toArray] w' fun e w'' => e = .returned (.bool (checkR r)) ∧ Below w'.heap.size w' w'' from ahas_any r h r.a h.a w')
  obtain ⟨R, hR⟩ : ∃ R, R = rngV r := ⟨_, rfl⟩
  obtain ⟨V, hV⟩ : ∃ V, V = adrV r.a := ⟨_, rfl⟩
  have HR := Lib.hid (show R = V ++ [Value.int .i64 r.n] by rw [hR, hV]; rfl)
  have hzV := Lib.hid (show (Tryz.prog.info? 26).map (·.size) = some V.length by rw [hV, length_adrV h.a]; exact size_adr)
  have hzR := Lib.hid (show (Tryz.prog.info? 28).map (·.size) = some R.length by rw [hR, length_rngV' r h.a]; exact size_rng)
  obtain ⟨w1, hw1⟩ : ∃ w1, w1 = w.alloc (.cells R.toArray 28) := ⟨_, rfl⟩
  have r1 : Row w1 w.heap.size 28 R := by rw [hw1]; exact Row.new w _ _
  have hb1 : Below w.heap.size w w1 := by rw [hw1]; exact (Below.refl _ w).alloc (Nat.le_refl _) _
  have HW := Lib.hid hw1
  rw [← hR, ← hV] at hh
  rw [← hR]
  clear hR hV hw1
  generalize checkR r = D at *
  have tok1 : True := trivial
  go_enter Tryz.func75, Tryz.ntmps75
  go_wp2_with (first
    | (have _t := tok1; rw [← HW.out]; clear tok1; with_reducible refine wpList_load_mid rfl 28 (.tmp 1) rfl w.heap.size 0 rfl R _ (row_range r1) Tryz.underlying28 rfl hzR.out ?_)
    | (with_reducible refine wpList_load_mid rfl 26 (.tmp 4) rfl w.heap.size 0 rfl V _ (row_part' HR.out r1) Tryz.underlying26 rfl hzV.out ?_)
    | (go_at_call 112; refine (hh.out _).mono ?_; rintro e w2 ⟨rfl, hb2⟩; have hb2 := hb1.trans (hb2.mono hb1.size)))
  go_ret
  exact ⟨rfl, hb2⟩
end Go.Proofs.YtgnhmpfoddfpdaaGreatDoor
