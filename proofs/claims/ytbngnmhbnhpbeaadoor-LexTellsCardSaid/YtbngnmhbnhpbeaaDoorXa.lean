/- LAYER 16: what package lex asks of the library, as lists. No Go function is spoken of here. -/
import Derived.Test.YtbngnmhbnhpbeaaDoorXl
import Derived.Test.YtbngnmhbnhpbeaaDoorSq
import Derived.Test.YtbngnmhbnhpbeaaDoorSs
import Derived.Laws.Runes
import Derived.Laws.RangeAny
import Derived.Lib.ParseIntBCases
import Derived.Shelf.GgClosure.StringsIndexFunc
namespace Go.Proofs.YtbngnmhbnhpbeaaDoor
set_option maxRecDepth 100000
open Go Go.RowKit Go.Lib

theorem all_from16 (q : UInt8 → Bool) (s : List UInt8) (k : Nat) (h : k < s.length) : (s.drop k).all q = (q (s[k]) && (s.drop (k + 1)).all q) := by
  rw [List.drop_eq_getElem_cons h, List.all_cons]
theorem idx_from16 (p : Nat → Bool) (q : UInt8 → Bool) (hb : ∀ c : UInt8, p c.toNat = !q c) (hh : ∀ x, 128 ≤ x → p x = true) (s : List UInt8) : ∀ (f pos : Nat), s.length ≤ pos + f → decide (0 ≤ idxFuncFrom p true (bstr s) f pos) = !(s.drop pos).all q := by
  intro f
  have hz := size_bstr s
  have hq : ∀ c : UInt8, 128 ≤ c.toNat → q c = false := by
    intro c h
    have := hb c
    rw [hh _ h] at this
    cases hs : q c with
    | false => rfl
    | true => rw [hs] at this; cases this
  induction f with
  | zero =>
    intro pos h
    rw [List.drop_eq_nil_of_le (by omega)]; rfl
  | succ f ih =>
    intro pos h
    rw [idxFuncFrom]
    by_cases hp : pos < s.length
    · rw [if_pos (by omega), all_from16 q s pos hp]
      have hp' : pos < (bstr s).size := by omega
      have hbp : (bstr s)[pos]'hp' = s[pos] := rfl
      by_cases ha : (s[pos]).toNat < 128
      · have e := decode_ascii (bstr s) pos hp' (by rw [hbp]; exact ha)
        rw [hbp] at e
        rw [e]
        show decide (0 ≤ if p (s[pos]).toNat = true then (pos : Int) else idxFuncFrom p true (bstr s) f (pos + 1)) = _
        rw [hb]
        cases hs : q s[pos] with
        | false => rw [if_pos (by rfl)]; simp
        | true =>
          rw [if_neg (by simp), ih (pos + 1) (by omega), Bool.true_and]
      · have e := (decode_high (bstr s) pos hp' (by rw [hbp]; omega)).1
        rw [if_pos (hh _ e), hq _ (by omega)]
        simp
    · rw [if_neg (by omega), List.drop_eq_nil_of_le (by omega)]; rfl
theorem idx_sign16 (p : Nat → Bool) (q : UInt8 → Bool) (hb : ∀ c : UInt8, p c.toNat = !q c) (hh : ∀ x, 128 ≤ x → p x = true) (s : List UInt8) : decide (0 ≤ idxFunc p true (bstr s)) = !s.all q := by
  unfold idxFunc
  exact idx_from16 p q hb hh s _ 0 (by rw [size_bstr]; omega)
/-- May no such rune stand between two bounds? -/
def strangeX (a b : Nat) (x : Nat) : Bool := decide (x < a) || decide (b < x)
theorem idx_ink (s : List UInt8) : decide (0 ≤ idxFunc (strangeX 32 126) true (bstr s)) = !s.all inkB := by
  refine idx_sign16 _ _ (fun c => ?_) (fun x h => ?_) s
  · unfold strangeX inkB
    rw [Bool.not_and, ← decide_not, ← decide_not]
    congr 1 <;> exact decide_eq_decide.2 (by omega)
  · unfold strangeX
    rw [decide_eq_true (by omega : 126 < x), Bool.or_true]
theorem idx_low (s : List UInt8) : decide (0 ≤ idxFunc (strangeX 97 122) true (bstr s)) = !s.all lowB := by
  refine idx_sign16 _ _ (fun c => ?_) (fun x h => ?_) s
  · unfold strangeX lowB
    rw [Bool.not_and, ← decide_not, ← decide_not]
    congr 1 <;> exact decide_eq_decide.2 (by omega)
  · unfold strangeX
    rw [decide_eq_true (by omega : 122 < x), Bool.or_true]
/-- Where more signs stand than pieces are asked for, there are just so many. -/
theorem splitB_more (c : UInt8) : ∀ (k : Nat) (s : List UInt8), k ≤ s.count c → (Lib.splitB (bstr [c]) 0 k (bstr s)).length = k + 1 := by
  intro k
  induction k with
  | zero => intro s _; rfl
  | succ k ih =>
    intro s h
    have e1 : Lib.indexB (bstr s) (bstr [c]) = Lib.indexByte s c := Lib.index_one s c
    rcases index_cases s c with ⟨hi, hsp⟩ | ⟨i, hir, hi, hsp⟩
    · have h2 := Lib.indexByte_none hi
      exfalso
      have hp : 0 < s.count c := by omega
      obtain ⟨j, hj⟩ := List.getElem?_of_mem (List.count_pos_iff.1 hp)
      exact h2 j hj
    · rw [Lib.splitB_hit _ _ _ _ i (by rw [e1, hi]), List.length_cons]
      have h2 := (Lib.indexByte_some hi).1
      have h3 := (Lib.indexByte_some hi).2
      have h1 : (bstr [c]).size = 1 := rfl
      have h0 : (s.take i).count c = 0 := by
        rw [List.count_eq_zero]
        intro hm
        obtain ⟨j, hj⟩ := List.getElem?_of_mem hm
        have hji : j < i := by have := (List.getElem?_eq_some_iff.1 hj).1; rw [List.length_take] at this; omega
        refine h3 j hji ?_
        rw [List.getElem?_take, if_pos hji] at hj
        exact hj
      have hc : s.count c = (s.take i).count c + (1 + (s.drop (i + 1)).count c) := by
        have e : s = s.take i ++ c :: s.drop (i + 1) := by
          have hg : s[i] = c := (List.getElem?_eq_some_iff.1 h2).2
          conv => lhs; rw [← List.take_append_drop i s, List.drop_eq_getElem_cons hir, hg]
        conv => lhs; rw [e]
        rw [List.count_append, List.count_cons_self]; omega
      have e2 : (bstr s).extract (i + (bstr [c]).size) (bstr s).size = bstr (s.drop (i + 1)) := by
        rw [h1, size_bstr, extract_bstr12, List.take_of_length_le (by rw [List.length_drop]; omega)]
      rw [e2, ih _ (by omega)]
theorem splitB_le (c : UInt8) : ∀ (k : Nat) (s : List UInt8), (Lib.splitB (bstr [c]) 0 k (bstr s)).length ≤ k + 1 := by
  intro k
  induction k with
  | zero => intro s; exact Nat.le_refl _
  | succ k ih =>
    intro s
    have e1 : Lib.indexB (bstr s) (bstr [c]) = Lib.indexByte s c := Lib.index_one s c
    rcases index_cases s c with ⟨hi, hsp⟩ | ⟨i, hir, hi, hsp⟩
    · rw [Lib.splitB_miss _ _ _ _ (by rw [e1, hi])]
      simp
    · rw [Lib.splitB_hit _ _ _ _ i (by rw [e1, hi]), List.length_cons]
      have e2 : (bstr s).extract (i + (bstr [c]).size) (bstr s).size = bstr (s.drop (i + 1)) := by
        rw [show (bstr [c]).size = 1 from rfl, size_bstr, extract_bstr12, List.take_of_length_le (by rw [List.length_drop]; omega)]
      rw [e2]
      have := ih (s.drop (i + 1))
      omega
theorem splitL_count (c : UInt8) (s : List UInt8) : (splitL c s).length = s.count c + 1 := by
  rw [← split_count c s]
  congr 1
  exact Lib.count_one c s
theorem splitB_piece (c : UInt8) : ∀ (k : Nat) (s : List UInt8), ∀ b ∈ Lib.splitB (bstr [c]) 0 k (bstr s), b.data.toList.length ≤ s.length := by
  intro k
  have h0 : ∀ s : List UInt8, (bstr s).data.toList = s := fun s => rfl
  induction k with
  | zero =>
    intro s b hb
    rw [Lib.splitB_zero, List.mem_singleton] at hb
    rw [hb, h0]; exact Nat.le_refl _
  | succ k ih =>
    intro s b hb
    have e1 : Lib.indexB (bstr s) (bstr [c]) = Lib.indexByte s c := Lib.index_one s c
    rcases index_cases s c with ⟨hi, hsp⟩ | ⟨i, hir, hi, hsp⟩
    · rw [Lib.splitB_miss _ _ _ _ (by rw [e1, hi]), List.mem_singleton] at hb
      rw [hb, h0]; exact Nat.le_refl _
    · rw [Lib.splitB_hit _ _ _ _ i (by rw [e1, hi]), List.mem_cons] at hb
      rcases hb with hb | hb
      · rw [hb, extract_bstr12, h0, List.length_take, List.length_drop]; omega
      · have e2 : (bstr s).extract (i + (bstr [c]).size) (bstr s).size = bstr (s.drop (i + 1)) := by
          rw [show (bstr [c]).size = 1 from rfl, size_bstr, extract_bstr12, List.take_of_length_le (by rw [List.length_drop]; omega)]
        rw [e2] at hb
        have := ih _ b hb
        rw [List.length_drop] at this; omega
/-- The library's SplitN, 33 pieces at most: the text has names just where these are such, and then they are they. -/
theorem splitN_names (s : List UInt8) : ∃ ps : List (List UInt8), Lib.splitB (bstr [44]) 0 (min 33 (s.length + 1) - 1) (bstr s) = ps.map bstr ∧ namesC s = (if riseL ps = true then some ps else none) ∧ (∀ p ∈ ps, p.length ≤ s.length) ∧ ps.length ≤ min 33 (s.length + 1) := by
  have hle : s.count 44 ≤ s.length := List.count_le_length
  have hlen := splitB_le 44 (min 33 (s.length + 1) - 1) s
  by_cases h : s.count 44 ≤ 32
  · have e := splitB_sign 44 (min 33 (s.length + 1) - 1) s (by omega)
    rw [e, List.length_map] at hlen
    exact ⟨splitL 44 s, e, rfl, splitL_piece 44 s, by omega⟩
  · have h33 := splitB_more 44 32 s (by omega)
    rw [← show min 33 (s.length + 1) - 1 = 32 by omega] at h33
    have hp := splitB_piece 44 (min 33 (s.length + 1) - 1) s
    generalize Lib.splitB (bstr [44]) 0 (min 33 (s.length + 1) - 1) (bstr s) = bs at *
    refine ⟨bs.map (fun b => b.data.toList), ?_, ?_, ?_, ?_⟩
    · rw [List.map_map]
      conv => lhs; rw [← List.map_id bs]
      exact List.map_congr_left fun b _ => by obtain ⟨⟨l⟩⟩ := b; rfl
    · have e1 : riseL (splitL 44 s) = false := by
        unfold riseL
        rw [splitL_count, decide_eq_false (by omega : ¬ s.count 44 + 1 ≤ 32), Bool.and_false]; rfl
      have e2 : riseL (bs.map (fun b => b.data.toList)) = false := by
        unfold riseL
        rw [List.length_map, decide_eq_false (by omega : ¬ bs.length ≤ 32), Bool.and_false]; rfl
      unfold namesC
      rw [e1, e2]; rfl
    · intro p hq
      obtain ⟨b, hb, rfl⟩ := List.mem_map.1 hq
      exact hp b hb
    · rw [List.length_map]; omega
/-! Numbers. -/
/-- What ParseUint answers beside its error. -/
def puX (l : List UInt8) : Nat := match Lib.parseUintB 64 l with
  | .ok v => v
  | .range => 18446744073709551615
  | _ => 0
theorem parseM_le : ∀ (l : List UInt8) (acc v : Nat), acc ≤ 18446744073709551615 → Lib.parseUintM 18446744073709551615 acc l = .ok v → v ≤ 18446744073709551615 := by
  intro l
  induction l with
  | nil =>
    intro acc v ha h
    rw [Lib.parseUintM] at h
    injection h with h
    omega
  | cons c r ih =>
    intro acc v ha h
    rw [Lib.parseUintM] at h
    split at h
    · split at h
      · cases h
      · split at h
        · cases h
        · exact ih _ _ (by omega) h
    · cases h
theorem puX_lt (l : List UInt8) : puX l < 18446744073709551616 := by
  unfold puX
  cases h : Lib.parseUintB 64 l with
  | ok v =>
    show v < _
    unfold Lib.parseUintB at h
    split at h
    · cases h
    · have := parseM_le l 0 v (by omega) h
      omega
  | range => show 18446744073709551615 < _; omega
  | _ => show 0 < _; omega
theorem foldV_le16 (s : List UInt8) : ∀ n v, foldV 10 n s = some v → n ≤ v := by
  induction s with
  | nil => intro n v h; cases h; omega
  | cons c s ih =>
    intro n v h
    rw [foldV] at h
    split at h
    · cases h
    · have := ih _ _ h; omega
theorem digI10 (c : UInt8) (h : 0 ≤ digI 10 c) : 48 ≤ c.toNat ∧ c.toNat ≤ 57 ∧ (digI 10 c).toNat = c.toNat - 48 := by
  have hb := digI_bd 10 c
  have hx := digI_hex 10 c h
  have hd : ∀ d : Nat, d < 10 → (hexD d).toNat = d + 48 := by
    have hh : ∀ d : Fin 10, (hexD d.1).toNat = d.1 + 48 := by decide
    intro d hd
    exact hh ⟨d, hd⟩
  have := hd (digI 10 c).toNat (by omega)
  rw [hx] at this
  omega
theorem parseM_fold (s : List UInt8) : ∀ n v, foldV 10 n s = some v → v < 18446744073709551616 → Lib.parseUintM 18446744073709551615 n s = .ok v := by
  induction s with
  | nil => intro n v h _; cases h; rfl
  | cons c s ih =>
    intro n v h hv
    rw [foldV] at h
    split at h
    · cases h
    · rename_i hd
      obtain ⟨h1, h2, h3⟩ := digI10 c (by omega)
      have hle := foldV_le16 _ _ _ h
      rw [h3] at h hle
      rw [Lib.parseUintM, if_pos ⟨h1, h2⟩, if_neg (by omega), if_neg (by omega)]
      exact ih _ _ h hv
theorem puX_num (n : Nat) (h : n < 18446744073709551616) : puX (numL 10 n) = n := by
  have e : Lib.parseUintB 64 (numL 10 n) = .ok n := by
    unfold Lib.parseUintB
    rw [if_neg (numL_ne 10 n)]
    exact parseM_fold _ 0 n (foldV_num 10 (by omega) (by omega) n) h
  unfold puX
  rw [e]
/-- A text has a number exactly where the digits of what ParseUint answers are the text. -/
theorem number_pu (s : List UInt8) : numberL s = if numL 10 (puX s) = s then some (puX s) else none := by
  by_cases h : numL 10 (puX s) = s
  · rw [if_pos h]
    conv => lhs; rw [← h]
    exact number_num _ (puX_lt s)
  · rw [if_neg h]
    unfold numberL
    cases hv : valueL 10 20 s with
    | none => rfl
    | some n =>
      show (if n < 2 ^ 64 then some n else none) = none
      rw [if_neg]
      intro hn
      have e := ((valueL_iff 10 20 (by omega) (by omega) s n).1 hv).1
      rw [← e] at h
      exact h (by rw [puX_num n hn])
end Go.Proofs.YtbngnmhbnhpbeaaDoor
