/- LAYER 12: lists: what a text's address is. No Go function is spoken of here. -/
import Derived.Test.YtflebnbpoboljaaDoorIr
namespace Go.Proofs.YtflebnbpoboljaaDoor
set_option maxRecDepth 100000
open Go Go.RowKit

def findC : List UInt8 → Option Nat
  | [] => none
  | c :: s => match s with
    | [] => none
    | d :: _ => if c = 58 ∧ d = 58 then some 0 else (findC s).map (· + 1)
def fourA (l : List Nat) : Adr := ⟨false, l.map UInt8.ofNat ++ List.replicate 12 0⟩
def padL (f b : List Nat) : List Nat := f ++ (List.replicate (8 - (f.length + b.length)) 0 ++ b)
def parse6 (s : List UInt8) : Option Adr :=
  match findC s with
  | none => match numbersL 16 4 65535 58 s with
    | none => none
    | some l => if l.length = 8 ∧ textA (sixA l) = s then some (sixA l) else none
  | some k => match numbersL 16 4 65535 58 (s.take k), numbersL 16 4 65535 58 (s.drop (k + 2)) with
    | some f, some b => if f.length + b.length ≤ 7 ∧ textA (sixA (padL f b)) = s then some (sixA (padL f b)) else none
    | _, _ => none
def parseL (s : List UInt8) : Option Adr :=
  match numbersL 10 3 255 46 s with
  | some l => if l.length = 4 then some (fourA l) else parse6 s
  | none => parse6 s
theorem findC_cons (c d : UInt8) (s : List UInt8) (h : ¬ (c = 58 ∧ d = 58)) : findC (c :: d :: s) = (findC (d :: s)).map (· + 1) := by
  show (if c = 58 ∧ d = 58 then some 0 else _) = _
  rw [if_neg h]
theorem findC_piece (p t : List UInt8) (h : ∀ c ∈ p, c ≠ 58) : findC (p ++ t) = (findC t).map (· + p.length) := by
  induction p with
  | nil => rw [List.nil_append]; cases findC t <;> rfl
  | cons c p ih =>
    have ih := ih (fun q hq => h q (List.mem_cons_of_mem _ hq))
    have hc := h c (List.mem_cons_self ..)
    rw [List.cons_append]
    cases hpt : p ++ t with
    | nil =>
      obtain ⟨rfl, rfl⟩ := List.append_eq_nil_iff.1 hpt
      rfl
    | cons d u =>
      rw [findC_cons c d u (fun hh => hc hh.1), ← hpt, ih]
      cases findC t <;> simp; omega
theorem findC_glue (ps : List (List UInt8)) (t : List UInt8) (h : ∀ p ∈ ps, p ≠ [] ∧ ∀ c ∈ p, c ≠ 58) : findC (glueL 58 ps ++ t) = (findC t).map (· + (glueL 58 ps).length) := by
  induction ps with
  | nil => show findC t = _; cases findC t <;> simp [glueL]
  | cons p ps ih =>
    have ih := ih (fun q hq => h q (List.mem_cons_of_mem _ hq))
    by_cases he : ps = []
    · subst he
      exact findC_piece p t (h p (List.mem_cons_self ..)).2
    · rw [glueL_cons 58 p ps he, List.append_assoc, findC_piece p _ (h p (List.mem_cons_self ..)).2, List.cons_append]
      have hd : ∃ d u, glueL 58 ps = d :: u ∧ d ≠ 58 := by
        cases ps with
        | nil => exact absurd rfl he
        | cons q qs =>
          have hq := h q (List.mem_cons_of_mem _ (List.mem_cons_self ..))
          cases q with
          | nil => exact absurd rfl hq.1
          | cons d q =>
            have hd := hq.2 d (List.mem_cons_self ..)
            cases qs with
            | nil => exact ⟨d, q, rfl, hd⟩
            | cons r qs => exact ⟨d, _, rfl, hd⟩
      obtain ⟨d, u, hdu, hd⟩ := hd
      rw [hdu, List.cons_append, findC_cons 58 d _ (fun hh => hd hh.2), ← List.cons_append, ← hdu, ih]
      cases findC t <;> simp; omega
theorem pieces_ok (l : List Nat) : ∀ p ∈ l.map (numL 16), p ≠ [] ∧ ∀ c ∈ p, c ≠ 58 := by
  intro p hp
  obtain ⟨n, _, rfl⟩ := List.mem_map.1 hp
  exact ⟨numL_ne 16 n, fun c hc => (numL_sign 16 n (by omega) (by omega) c hc).2⟩
theorem mem_glue (x : UInt8) (ps : List (List UInt8)) (c : UInt8) (h : c ∈ glueL x ps) : c = x ∨ ∃ p ∈ ps, c ∈ p := by
  induction ps with
  | nil => cases h
  | cons p ps ih =>
    by_cases he : ps = []
    · subst he
      exact .inr ⟨p, List.mem_cons_self .., h⟩
    · rw [glueL_cons x p ps he] at h
      rcases List.mem_append.1 h with h | h
      · exact .inr ⟨p, List.mem_cons_self .., h⟩
      · rcases List.mem_cons.1 h with h | h
        · exact .inl h
        · rcases ih h with h | ⟨q, hq, hc⟩
          · exact .inl h
          · exact .inr ⟨q, List.mem_cons_of_mem _ hq, hc⟩
theorem joinN_no46 (l : List Nat) : (46 : UInt8) ∉ joinN l := by
  rw [joinN_glue]
  intro h
  rcases mem_glue 58 _ _ h with h | ⟨p, hp, hc⟩
  · cases h
  · obtain ⟨n, _, rfl⟩ := List.mem_map.1 hp
    exact (numL_sign 16 n (by omega) (by omega) 46 hc).1 rfl
theorem textN_no46 (l : List Nat) : (46 : UInt8) ∉ textN l := by
  unfold textN
  simp only []
  split
  · exact joinN_no46 l
  · intro h
    rcases List.mem_append.1 h with h | h
    · exact joinN_no46 _ h
    · rcases List.mem_cons.1 h with h | h
      · cases h
      · rcases List.mem_cons.1 h with h | h
        · cases h
        · exact joinN_no46 _ h
theorem numL16_len (n : Nat) (h : n ≤ 65535) : (numL 16 n).length ≤ 4 := numL_len 16 (by omega) 3 n (by omega)
theorem numL10_len (n : Nat) (h : n ≤ 255) : (numL 10 n).length ≤ 3 := numL_len 10 (by omega) 2 n (by omega)
theorem zerosL_split (l : List Nat) : l = List.replicate (zerosL l) 0 ++ l.drop (zerosL l) := by
  induction l with
  | nil => rfl
  | cons n l ih =>
    rw [zerosL]
    by_cases h : n = 0
    · rw [if_pos h, List.replicate_succ, List.cons_append, List.drop_succ_cons, ← ih, h]
    · rw [if_neg h]; rfl
theorem sixA_ok (l : List Nat) (h : l.length = 8) : (sixA l).Ok := by show (bytes6 l).length = 16; rw [length_bytes6, h]
theorem checkA_six (l : List Nat) : checkA (sixA l) = true := rfl
theorem padL_len (f b : List Nat) (h : f.length + b.length ≤ 7) : (padL f b).length = 8 := by unfold padL; simp; omega
theorem textA_four (l : List Nat) (h4 : l.length = 4) (hm : ∀ n ∈ l, n ≤ 255) : (fourA l).Ok ∧ checkA (fourA l) = true ∧ textA (fourA l) = glueL 46 (l.map (numL 10)) := by
  match l, h4, hm with
  | [a, b, c, d], _, hm =>
    have ha := hm a (by simp)
    have hb := hm b (by simp)
    have hc := hm c (by simp)
    have hd := hm d (by simp)
    have e : ∀ n, n ≤ 255 → (UInt8.ofNat n).toNat = n := fun n hn => by rw [UInt8.toNat_ofNat']; omega
    refine ⟨rfl, rfl, ?_⟩
    show numL 10 (UInt8.ofNat a).toNat ++ 46 :: numL 10 (UInt8.ofNat b).toNat ++ 46 :: numL 10 (UInt8.ofNat c).toNat ++ 46 :: numL 10 (UInt8.ofNat d).toNat = _
    rw [e a ha, e b hb, e c hc, e d hd]
    show _ = numL 10 a ++ 46 :: (numL 10 b ++ 46 :: (numL 10 c ++ 46 :: numL 10 d))
    simp
theorem parse6_sound (s : List UInt8) (a : Adr) (h : parse6 s = some a) : a.Ok ∧ checkA a = true ∧ textA a = s := by
  unfold parse6 at h
  cases hf : findC s with
  | none =>
    rw [hf] at h
    cases hn : numbersL 16 4 65535 58 s with
    | none => simp only [hn] at h; cases h
    | some l =>
      simp only [hn] at h
      by_cases hc : l.length = 8 ∧ textA (sixA l) = s
      · rw [if_pos hc] at h
        cases h
        exact ⟨sixA_ok l hc.1, rfl, hc.2⟩
      · rw [if_neg hc] at h; cases h
  | some k =>
    rw [hf] at h
    cases hn : numbersL 16 4 65535 58 (s.take k) with
    | none => simp only [hn] at h; cases h
    | some f =>
      cases hb : numbersL 16 4 65535 58 (s.drop (k + 2)) with
      | none => simp only [hn, hb] at h; cases h
      | some b =>
        simp only [hn, hb] at h
        by_cases hc : f.length + b.length ≤ 7 ∧ textA (sixA (padL f b)) = s
        · rw [if_pos hc] at h
          cases h
          exact ⟨sixA_ok _ (padL_len f b hc.1), rfl, hc.2⟩
        · rw [if_neg hc] at h; cases h
theorem parseL_sound (s : List UInt8) (a : Adr) (h : parseL s = some a) : a.Ok ∧ checkA a = true ∧ textA a = s := by
  unfold parseL at h
  cases hn : numbersL 10 3 255 46 s with
  | none => rw [hn] at h; exact parse6_sound s a h
  | some l =>
    simp only [hn] at h
    by_cases h4 : l.length = 4
    · rw [if_pos h4] at h
      cases h
      obtain ⟨hs, hall⟩ := (numbersL_iff 10 3 255 46 (by omega) (by omega) (.inl rfl) s l).1 hn
      obtain ⟨h1, h2, h3⟩ := textA_four l h4 (fun n hq => (hall n hq).1)
      exact ⟨h1, h2, by rw [h3, ← hs]⟩
    · rw [if_neg h4] at h; exact parse6_sound s a h
end Go.Proofs.YtflebnbpoboljaaDoor
