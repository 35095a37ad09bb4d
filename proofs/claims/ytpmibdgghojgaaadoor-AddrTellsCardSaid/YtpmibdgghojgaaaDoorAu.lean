/- LAYER 12: lists: what package addr's read finds in an address's text is that address. -/
import Derived.Test.YtpmibdgghojgaaaDoorAt
namespace Go.Proofs.YtpmibdgghojgaaaDoor
set_option maxRecDepth 100000
open Go Go.RowKit

theorem dv_hex : ∀ d : Nat, d < 16 → dvL (hexD d).toNat = d := by
  intro d hd
  have : d = 0 ∨ d = 1 ∨ d = 2 ∨ d = 3 ∨ d = 4 ∨ d = 5 ∨ d = 6 ∨ d = 7 ∨ d = 8 ∨ d = 9 ∨ d = 10 ∨ d = 11 ∨ d = 12 ∨ d = 13 ∨ d = 14 ∨ d = 15 := by omega
  rcases this with rfl | rfl | rfl | rfl | rfl | rfl | rfl | rfl | rfl | rfl | rfl | rfl | rfl | rfl | rfl | rfl <;> decide
theorem puL_append (b : Nat) (t : List UInt8) : ∀ (s : List UInt8) (m k : Nat), puL b m s = (k, 0) → puL b m (s ++ t) = puL b k t
  | [], m, k, h => by cases h; rfl
  | c :: s, m, k, h => by
    rw [puL] at h
    rw [List.cons_append, puL]
    split at h
    · cases h
    · rename_i h1
      rw [if_neg h1]
      split at h
      · cases h
      · rename_i h2
        rw [if_neg h2]
        exact puL_append b t s _ k h
theorem puL_num (b : Nat) (h2 : 2 ≤ b) (hb : b ≤ 16) (n : Nat) : n ≤ 65535 → puL b 0 (numL b n) = (n, 0) := by
  induction n using Nat.strongRecOn with
  | _ n ih =>
    intro hn
    by_cases hlt : n < b
    · rw [numL_small b n hlt]
      show (if b ≤ dvL (hexD n).toNat then (0, 2) else if 65535 < 0 * b + dvL (hexD n).toNat then (65535, 1) else puL b (0 * b + dvL (hexD n).toNat) []) = _
      rw [dv_hex n (by omega), if_neg (by omega), if_neg (by omega), Nat.zero_mul, Nat.zero_add]; rfl
    · have hdm : n / b * b + n % b = n := by rw [Nat.mul_comm]; exact Nat.div_add_mod n b
      have hml : n % b < b := Nat.mod_lt _ (by omega)
      rw [numL_great b n (by omega) (by omega), puL_append b _ _ 0 (n / b) (ih (n / b) (Nat.div_lt_self (by omega) (by omega)) (Nat.le_trans (Nat.div_le_self _ _) hn))]
      show (if b ≤ dvL (hexD (n % b)).toNat then (0, 2) else if 65535 < n / b * b + dvL (hexD (n % b)).toNat then (65535, 1) else puL b (n / b * b + dvL (hexD (n % b)).toNat) []) = _
      rw [dv_hex _ (by omega), if_neg (by omega), hdm, if_neg (by omega)]; rfl
theorem puA_num (b : Nat) (h2 : 2 ≤ b) (hb : b ≤ 16) (n : Nat) (hn : n ≤ 65535) : (puA b (numL b n)).1 = n := by
  unfold puA
  rw [if_neg (numL_ne b n), puL_num b h2 hb n hn]
theorem numsF_of (b dg most : Nat) (x : UInt8) (h2 : 2 ≤ b) (hb : b ≤ 16) (s : List UInt8) (l : List Nat) (hl : l.length ≤ 8) (hm : most ≤ 65535) (h : numbersL b dg most x s = some l) : numsF b x s = l := by
  unfold numbersL at h
  unfold numsF
  by_cases h0 : s = []
  · rw [if_pos h0] at h ⊢; cases h; rfl
  · rw [if_neg h0] at h ⊢
    obtain ⟨h1, h3⟩ := (goL_iff b dg most h2 hb _ _).1 h
    rw [← h1, List.take_of_length_le (by rw [List.length_map]; exact hl), List.map_map]
    conv => rhs; rw [← List.map_id l]
    exact List.map_congr_left fun n hn => puA_num b h2 hb n (Nat.le_trans (h3 n hn).1 hm)
theorem index_findC (s : List UInt8) : Lib.index s [58, 58] = match findC s with | none => -1 | some k => (k : Int) := by
  induction s with
  | nil => rfl
  | cons c s ih =>
    cases s with
    | nil => 
      show (if _ then _ else _) = _
      rw [if_neg (by simp [List.isPrefixOf])]; rfl
    | cons d s =>
      show (if _ then _ else _) = _
      by_cases h : c = 58 ∧ d = 58
      · obtain ⟨rfl, rfl⟩ := h
        rw [if_pos (by simp [List.isPrefixOf])]; rfl
      · rw [if_neg (by simp [List.isPrefixOf]; intro h1 h2; exact h ⟨h1.symm, h2.symm⟩), ih, findC_cons c d s h]
        cases findC (d :: s) with
        | none => rfl
        | some k =>
          show (if ((k : Int) == -1) = true then (-1 : Int) else (k : Int) + 1) = ((k + 1 : Nat) : Int)
          rw [if_neg (by simp)]; rfl
theorem cutF_none (s : List UInt8) (h : findC s = none) : cutF s = (s, []) := by
  have := index_findC s
  rw [h] at this
  unfold cutF Lib.cut
  rw [this]; rfl
theorem cutF_some (s : List UInt8) (k : Nat) (h : findC s = some k) : cutF s = (s.take k, s.drop (k + 2)) := by
  have := index_findC s
  rw [h] at this
  unfold cutF Lib.cut
  rw [this, if_pos (by simp)]; rfl
theorem indexByte_mem (s : List UInt8) (c : UInt8) : 0 ≤ Lib.indexByte s c ↔ c ∈ s := by
  constructor
  · intro h
    obtain ⟨o, ho⟩ : ∃ o : Nat, Lib.indexByte s c = (o : Int) := ⟨(Lib.indexByte s c).toNat, by omega⟩
    exact List.mem_of_getElem? (Lib.indexByte_some ho).1
  · intro h
    have hge := Lib.indexByte_ge s c
    by_cases hn : Lib.indexByte s c = -1
    · obtain ⟨k, hk⟩ := List.getElem?_of_mem h
      exact absurd hk (Lib.indexByte_none hn k)
    · omega
theorem findC_mem (s : List UInt8) : ∀ k, findC s = some k → (58 : UInt8) ∈ s := by
  intro k h
  have := index_findC s
  rw [h] at this
  rcases Lib.index_spec s [58, 58] with ⟨h1, -⟩ | ⟨i, h1, h2, h3, -⟩
  · rw [this] at h1; simp at h1
  · unfold Lib.occAt at h3
    cases hd : s.drop i with
    | nil => rw [hd] at h3; simp [List.isPrefixOf] at h3
    | cons c t =>
      rw [hd] at h3
      simp [List.isPrefixOf] at h3
      have : c ∈ s.drop i := by rw [hd]; exact List.mem_cons_self ..
      rw [← h3.1] at this
      exact List.mem_of_mem_drop this
theorem padF_full (l : List Nat) (h : l.length = 8) : padF l [] = l := by unfold padF; simp [h]; exact List.take_of_length_le (by omega)
theorem padF_padL (f b : List Nat) (h : f.length + b.length ≤ 7) : padF f b = padL f b := by
  unfold padF padL
  rw [List.take_append, List.take_of_length_le (by omega), List.take_replicate, List.append_assoc, show min (8 - b.length - f.length) (8 - f.length) = 8 - (f.length + b.length) by omega]
theorem glue_in (x : UInt8) (ps : List (List UInt8)) (h : 2 ≤ ps.length) : x ∈ glueL x ps := by
  match ps, h with
  | p :: q :: ps, _ => rw [glueL_cons x p (q :: ps) (by simp)]; simp
theorem read_six (s : List UInt8) (a : Adr) (h : parse6 s = some a) : readF s = a := by
  unfold parse6 at h
  cases hf : findC s with
  | none =>
    rw [hf] at h
    cases hn : numbersL 16 4 65535 58 s with
    | none => rw [hn] at h; cases h
    | some l =>
      simp only [hn] at h
      by_cases hc : l.length = 8 ∧ textA (sixA l) = s
      · rw [if_pos hc] at h
        cases h
        have hs := ((numbersL_iff 16 4 65535 58 (by omega) (by omega) (.inr rfl) s l).1 hn).1
        unfold readF
        rw [if_pos ((indexByte_mem s 58).2 (by rw [hs]; exact glue_in 58 _ (by rw [List.length_map]; omega)))]
        unfold readSixF
        rw [cutF_none s hf, numsF_of 16 4 65535 58 (by omega) (by omega) s l (by omega) (by omega) hn]
        show sixA (padF l []) = _
        rw [padF_full l hc.1]
      · rw [if_neg hc] at h; cases h
  | some k =>
    rw [hf] at h
    cases hn : numbersL 16 4 65535 58 (s.take k) with
    | none => simp [hn] at h
    | some f =>
      cases hm : numbersL 16 4 65535 58 (s.drop (k + 2)) with
      | none => simp [hn, hm] at h
      | some b =>
        simp only [hn, hm] at h
        by_cases hc : f.length + b.length ≤ 7 ∧ textA (sixA (padL f b)) = s
        · rw [if_pos hc] at h
          cases h
          unfold readF
          rw [if_pos ((indexByte_mem s 58).2 (findC_mem s k hf))]
          unfold readSixF
          rw [cutF_some s k hf]
          show sixA (padF (numsF 16 58 (s.take k)) (numsF 16 58 (s.drop (k + 2)))) = _
          rw [numsF_of 16 4 65535 58 (by omega) (by omega) _ f (by omega) (by omega) hn, numsF_of 16 4 65535 58 (by omega) (by omega) _ b (by omega) (by omega) hm, padF_padL f b hc.1]
        · rw [if_neg hc] at h; cases h
theorem read_parse (s : List UInt8) (a : Adr) (h : parseL s = some a) : readF s = a := by
  unfold parseL at h
  cases hn : numbersL 10 3 255 46 s with
  | none => rw [hn] at h; exact read_six s a h
  | some l =>
    simp only [hn] at h
    by_cases h4 : l.length = 4
    · rw [if_pos h4] at h
      cases h
      obtain ⟨hs, hall⟩ := (numbersL_iff 10 3 255 46 (by omega) (by omega) (.inl rfl) s l).1 hn
      have hno : ¬ 0 ≤ Lib.indexByte s 58 := by
        rw [indexByte_mem, hs]
        intro hmem
        rcases mem_glue 46 _ 58 hmem with h | ⟨p, hp, hc⟩
        · exact absurd h (by decide)
        · obtain ⟨n, -, rfl⟩ := List.mem_map.1 hp
          exact (numL_sign 10 n (by omega) (by omega) 58 hc).2 rfl
      unfold readF
      rw [if_neg hno, numsF_of 10 3 255 46 (by omega) (by omega) s l (by omega) (by omega) hn]
      match l, h4 with
      | [p, q, r, t], _ => rfl
    · rw [if_neg h4] at h; exact read_six s a h
/-- What package addr's Parse answers is what the document asks. -/
theorem parse_read (s : List UInt8) : parseL s = if textA (readF s) = s then some (readF s) else none := by
  by_cases h : textA (readF s) = s
  · rw [if_pos h]
    exact (parseL_iff s (readF s)).2 ⟨readF_ok s, readF_check s, h⟩
  · rw [if_neg h]
    cases hp : parseL s with
    | none => rfl
    | some a =>
      have hr := read_parse s a hp
      exact absurd (by rw [hr]; exact ((parseL_iff s a).1 hp).2.2) h
end Go.Proofs.YtpmibdgghojgaaaDoor
