/- LAYER 10: what package packet's 'read' reads: lists alone. -/
import Derived.Test.YthiebbhooigogaaPl
namespace Go.Proofs.Ythiebbhooigogaa
open Go Go.RowKit

def ofTag (l : List UInt8) : List UInt8 := if l.length = 32 then l else List.replicate 32 0
theorem length_ofTag (l : List UInt8) : (ofTag l).length = 32 := by
  unfold ofTag; split
  · assumption
  · rfl
def restF (l : List UInt8) : List UInt8 := l.drop (getF l).2
def cavL (f : Fd) (l : List UInt8) : Cav × List UInt8 :=
  if f.1 = 3 then (⟨false, f.2, 0, [], []⟩, l)
  else (⟨true, [], (getL f.2).1, (getF l).1.2, (getF (restF l)).1.2⟩, restF (restF l))
def isCav (f : Fd) : Bool := decide (f.1 = 3) || decide (f.1 = 4)
def loopL : Nat → List Cav → Fd → List UInt8 → List Cav × Fd × List UInt8
  | 0, cs, f, l => (cs, f, l)
  | n + 1, cs, f, l => if isCav f then loopL n (cs ++ [(cavL f l).1]) (getF (cavL f l).2).1 (restF (cavL f l).2) else (cs, f, l)
def readL (b : List UInt8) : Tok :=
  let r := loopL 65 [] (getF (restF (restF b))).1 (restF (restF (restF b)))
  ⟨(getL (getF b).1.2).1, (getF (restF b)).1.2, r.1, decide (r.2.1.2 = [1]), ofTag (getF r.2.2).1.2⟩
theorem loopL_stop (n : Nat) (cs : List Cav) (f : Fd) (l : List UInt8) (h : isCav f = false) : loopL n cs f l = (cs, f, l) := by
  cases n with
  | zero => rfl
  | succ n => unfold loopL; rw [h]; rfl
theorem loopL_go (n : Nat) (cs : List Cav) (f : Fd) (l : List UInt8) (h : isCav f = true) : loopL (n + 1) cs f l = loopL n (cs ++ [(cavL f l).1]) (getF (cavL f l).2).1 (restF (cavL f l).2) := by
  rw [loopL, h, if_pos rfl]
theorem joinL_cons (f : Fd) (fs : List Fd) : joinL (f :: fs) = fieldL f ++ joinL fs := by unfold joinL; rw [List.flatMap_cons]
theorem getF_join (f : Fd) (fs : List Fd) (h : f.2.length < 18446744073709551616) : (getF (joinL (f :: fs))).1 = f := by rw [joinL_cons, getF_fieldL f _ h]
theorem restF_join (f : Fd) (fs : List Fd) (h : f.2.length < 18446744073709551616) : restF (joinL (f :: fs)) = joinL fs := by
  unfold restF
  rw [joinL_cons, getF_fieldL f _ h]
  exact List.drop_left
theorem cavL_join (c : Cav) (hc : canC c = true) (hp : c.party < 18446744073709551616) (f : Fd) (fs gs : List Fd) (h : cavF c = f :: fs) : cavL f (joinL (fs ++ gs)) = (c, joinL gs) ∧ isCav f = true := by
  have hl := can_len hc
  obtain ⟨third, text, party, id, vault⟩ := c
  unfold canC at hc
  unfold cavF at h hl
  cases third with
  | false =>
    simp only [Bool.false_eq_true, if_false, Bool.and_eq_true, decide_eq_true_eq] at hc
    obtain ⟨⟨⟨_, rfl⟩, rfl⟩, rfl⟩ := hc
    simp only [Bool.false_eq_true, if_false, List.cons.injEq] at h
    obtain ⟨rfl, rfl⟩ := h
    exact ⟨rfl, rfl⟩
  | true =>
    simp only [if_true, Bool.and_eq_true, decide_eq_true_eq] at hc
    obtain ⟨⟨rfl, _⟩, _⟩ := hc
    simp only [if_true, List.cons.injEq] at h
    obtain ⟨rfl, rfl⟩ := h
    dsimp only at hl
    have h5 : id.length < 18446744073709551616 := Nat.lt_of_le_of_lt (hl (5, id) (by simp)) (by decide)
    have h6 : vault.length < 18446744073709551616 := Nat.lt_of_le_of_lt (hl (6, vault) (by simp)) (by decide)
    refine ⟨?_, rfl⟩
    show cavL (4, varL party) (joinL ((5, id) :: (6, vault) :: gs)) = _
    unfold cavL
    rw [if_neg (by decide : ¬ (4 : UInt8) = 3), getF_join _ _ h5, restF_join _ _ h5, getF_join _ _ h6, restF_join _ _ h6]
    dsimp only
    rw [getL_var0 party hp]
theorem cavF_cons (c : Cav) : ∃ f fs, cavF c = f :: fs := by
  unfold cavF
  split
  · exact ⟨_, _, rfl⟩
  · exact ⟨_, _, rfl⟩
theorem loopL_cavs (v T : List UInt8) (h7 : v.length < 18446744073709551616) : ∀ (cs cs0 : List Cav) (n : Nat) (f : Fd) (fs : List Fd), cs.all canC = true → (∀ c ∈ cs, c.party < 18446744073709551616) → cs.length ≤ n →
    cs.flatMap cavF ++ [(7, v), (8, T)] = f :: fs → loopL n cs0 f (joinL fs) = (cs0 ++ cs, (7, v), joinL [(8, T)])
  | [], cs0, n, f, fs, _, _, _, h => by
    simp only [List.flatMap_nil, List.nil_append, List.cons.injEq] at h
    obtain ⟨rfl, rfl⟩ := h
    rw [loopL_stop _ _ _ _ rfl, List.append_nil]
  | c :: cs, cs0, n, f, fs, hc, hp, hn, h => by
    rw [List.all_cons, Bool.and_eq_true] at hc
    obtain ⟨g, gs, hg⟩ := cavF_cons c
    rw [List.flatMap_cons, hg] at h
    simp only [List.cons_append, List.cons.injEq, List.append_assoc] at h
    obtain ⟨rfl, rfl⟩ := h
    cases n with
    | zero => simp at hn
    | succ n =>
      obtain ⟨h1, h2⟩ := cavL_join c hc.1 (hp c List.mem_cons_self) g gs (cs.flatMap cavF ++ [(7, v), (8, T)]) hg
      rw [loopL_go _ _ _ _ h2, h1]
      dsimp only
      obtain ⟨f', fs', hf'⟩ : ∃ f' fs', cs.flatMap cavF ++ [(7, v), (8, T)] = f' :: fs' := by
        cases hq : cs.flatMap cavF ++ [(7, v), (8, T)] with
        | nil => simp at hq
        | cons a b => exact ⟨a, b, rfl⟩
      have hl : f'.2.length < 18446744073709551616 := by
        have hm : f' ∈ cs.flatMap cavF ++ [(7, v), (8, T)] := by rw [hf']; exact List.mem_cons_self
        rcases List.mem_append.1 hm with hm | hm
        · obtain ⟨d, hd, hfd⟩ := List.mem_flatMap.1 hm
          exact Nat.lt_of_le_of_lt (can_len (List.all_eq_true.1 hc.2 d hd) f' hfd) (by decide)
        · cases cs with
          | nil =>
            simp only [List.flatMap_nil, List.nil_append, List.cons.injEq] at hf'
            rw [← hf'.1]; exact h7
          | cons d ds =>
            obtain ⟨e, es, he⟩ := cavF_cons d
            rw [List.flatMap_cons, he] at hf'
            simp only [List.cons_append, List.cons.injEq] at hf'
            rw [← hf'.1]
            exact Nat.lt_of_le_of_lt (can_len (List.all_eq_true.1 hc.2 d List.mem_cons_self) e (by rw [he]; exact List.mem_cons_self)) (by decide)
      rw [hf', getF_join _ _ hl, restF_join _ _ hl, loopL_cavs v T h7 cs (cs0 ++ [c]) n f' fs' hc.2 (fun d hd => hp d (List.mem_cons_of_mem _ hd)) (by rw [List.length_cons] at hn; omega) hf', List.append_assoc]
      rfl
theorem readL_bytesT (t : Tok) (h : t.Ok) (hc : checkT t = true) : readL (bytesT t) = t := by
  have hl := tokF_len h hc
  obtain ⟨key, id, cavs, bound, tag⟩ := t
  unfold checkT at hc
  simp only [Bool.and_eq_true, decide_eq_true_eq] at hc
  have ht : tag.length = 32 := h.tag
  have hv := length_varL key
  have l1 : (varL key).length < 18446744073709551616 := by omega
  have l2 : id.length < 18446744073709551616 := by have := hc.1.1; omega
  obtain ⟨v, hvq⟩ : ∃ v : List UInt8, v = [if bound = true then 1 else 0] := ⟨_, rfl⟩
  have l7 : v.length < 18446744073709551616 := by rw [hvq, List.length_singleton]; decide
  have l8 : tag.length < 18446744073709551616 := by rw [ht]; decide
  have e : bytesT ⟨key, id, cavs, bound, tag⟩ = joinL ((1, varL key) :: (2, id) :: (cavs.flatMap cavF ++ [(7, v), (8, tag)])) := by
    rw [hvq]
    unfold bytesT tokF
    rw [List.append_assoc]; rfl
  rw [e]
  obtain ⟨f', fs', hf'⟩ : ∃ f' fs', cavs.flatMap cavF ++ [(7, v), (8, tag)] = f' :: fs' := by
    cases hq : cavs.flatMap cavF ++ [(7, v), (8, tag)] with
    | nil => simp at hq
    | cons a b => exact ⟨a, b, rfl⟩
  have hl' : f'.2.length < 18446744073709551616 := by
    have hm : f' ∈ tokF ⟨key, id, cavs, bound, tag⟩ := by
      unfold tokF
      rw [List.append_assoc]
      refine List.mem_append_right _ ?_
      show f' ∈ cavs.flatMap cavF ++ [(7, [if bound = true then 1 else 0]), (8, tag)]
      rw [← hvq, hf']
      exact List.mem_cons_self
    exact Nat.lt_of_le_of_lt (hl f' hm) (by decide)
  unfold readL
  rw [restF_join _ _ l1, getF_join _ _ l1, restF_join _ _ l2, getF_join _ _ l2, hf', getF_join _ _ hl', restF_join _ _ hl']
  rw [loopL_cavs v tag l7 cavs [] 65 f' fs' hc.2 h.party (by have := hc.1.2; omega) hf']
  dsimp only
  rw [getF_join _ _ l8, getL_var0 key h.key, List.nil_append]
  have hb : decide (v = [1]) = bound := by rw [hvq]; cases bound <;> rfl
  rw [hb]
  unfold ofTag
  dsimp only
  rw [if_pos ht]
/-- What decT says of bytes, told by what 'read' reads. -/
theorem cavL_party (f : Fd) (l : List UInt8) : (cavL f l).1.party < 18446744073709551616 := by
  unfold cavL; split
  · show 0 < 18446744073709551616; decide
  · exact getL_one _
theorem loopL_party : ∀ (n : Nat) (cs : List Cav) (f : Fd) (l : List UInt8), (∀ c ∈ cs, c.party < 18446744073709551616) → ∀ c ∈ (loopL n cs f l).1, c.party < 18446744073709551616
  | 0, _, _, _, h => h
  | n + 1, cs, f, l, h => by
    cases hf : isCav f with
    | false => rw [loopL_stop _ _ _ _ hf]; exact h
    | true =>
      rw [loopL_go _ _ _ _ hf]
      refine loopL_party n _ _ _ (fun c hc => ?_)
      rcases List.mem_append.1 hc with hc | hc
      · exact h c hc
      · rw [List.mem_singleton.1 hc]; exact cavL_party f l
theorem readL_cavs (b : List UInt8) : (readL b).cavs = (loopL 65 [] (getF (restF (restF b))).1 (restF (restF (restF b)))).1 := by unfold readL; dsimp only
theorem readL_key (b : List UInt8) : (readL b).key = (getL (getF b).1.2).1 := by unfold readL; dsimp only
theorem readL_id (b : List UInt8) : (readL b).id = (getF (restF b)).1.2 := by unfold readL; dsimp only
theorem readL_tag (b : List UInt8) : (readL b).tag = ofTag (getF (loopL 65 [] (getF (restF (restF b))).1 (restF (restF (restF b)))).2.2).1.2 := by unfold readL; dsimp only
theorem readL_ok (b : List UInt8) : (readL b).Ok := ⟨by rw [readL_key]; exact getL_one _, by rw [readL_cavs]; exact loopL_party 65 [] _ _ (fun _ h => by cases h), by rw [readL_tag]; exact length_ofTag _⟩
theorem decT_readL (b : List UInt8) : decT b = if checkT (readL b) = true ∧ bytesT (readL b) = b then some (readL b) else none := by
  split
  · rename_i h
    exact (decT_iff b (readL b)).2 ⟨h.1, h.2, readL_ok b⟩
  · rename_i h
    cases hd : decT b with
    | none => rfl
    | some t =>
      obtain ⟨h1, h2, h3⟩ := decT_back b t hd
      refine absurd ?_ h
      rw [← h2, readL_bytesT t h3 h1]
      exact ⟨h1, rfl⟩
/-! ### How long what is read can be -/
theorem getF_len (l : List UInt8) (m : Nat) (h : l.length ≤ m) : (getF l).1.2.length ≤ m := by
  rcases getF_back l with h0 | ⟨_, _, h3, _⟩
  · rw [h0]; exact Nat.zero_le _
  · omega
theorem restF_len (l : List UInt8) (m : Nat) (h : l.length ≤ m) : (restF l).length ≤ m := by unfold restF; rw [List.length_drop]; omega
def CavLen (m : Nat) (c : Cav) : Prop := c.text.length ≤ m ∧ c.id.length ≤ m ∧ c.vault.length ≤ m
theorem cavL_len (f : Fd) (l : List UInt8) (m : Nat) (hf : f.2.length ≤ m) (h : l.length ≤ m) : CavLen m (cavL f l).1 ∧ (cavL f l).2.length ≤ m := by
  unfold cavL; split
  · exact ⟨⟨hf, Nat.zero_le _, Nat.zero_le _⟩, h⟩
  · exact ⟨⟨Nat.zero_le _, getF_len _ _ h, getF_len _ _ (restF_len _ _ h)⟩, restF_len _ _ (restF_len _ _ h)⟩
theorem loopL_len (m : Nat) : ∀ (n : Nat) (cs : List Cav) (f : Fd) (l : List UInt8), (∀ c ∈ cs, CavLen m c) → f.2.length ≤ m → l.length ≤ m → (∀ c ∈ (loopL n cs f l).1, CavLen m c) ∧ (loopL n cs f l).1.length ≤ cs.length + n ∧ (loopL n cs f l).2.2.length ≤ m
  | 0, _, _, _, h, _, hl => ⟨h, Nat.le_refl _, hl⟩
  | n + 1, cs, f, l, h, hf, hl => by
    cases hq : isCav f with
    | false => rw [loopL_stop _ _ _ _ hq]; exact ⟨h, Nat.le_add_right _ _, hl⟩
    | true =>
      rw [loopL_go _ _ _ _ hq]
      obtain ⟨h1, h2⟩ := cavL_len f l m hf hl
      obtain ⟨h3, h4, h5⟩ := loopL_len m n (cs ++ [(cavL f l).1]) (getF (cavL f l).2).1 (restF (cavL f l).2) (fun c hc => by
        rcases List.mem_append.1 hc with hc | hc
        · exact h c hc
        · rw [List.mem_singleton.1 hc]; exact h1) (getF_len _ _ h2) (restF_len _ _ h2)
      rw [List.length_append, List.length_singleton] at h4
      exact ⟨h3, by omega, h5⟩
end Go.Proofs.Ythiebbhooigogaa
