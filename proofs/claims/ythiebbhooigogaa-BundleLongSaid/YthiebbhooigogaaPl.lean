/- LAYER 10: tokens: lists alone. -/
import Derived.Test.YthiebbhooigogaaFl
namespace Go.Proofs.Ythiebbhooigogaa
open Go Go.RowKit

structure Cav where
  third : Bool
  text : List UInt8
  party : Nat
  id : List UInt8
  vault : List UInt8
structure Tok where
  key : Nat
  id : List UInt8
  cavs : List Cav
  bound : Bool
  tag : List UInt8
theorem Cav.ext_iff' (a b : Cav) : a = b ↔ a.third = b.third ∧ a.text = b.text ∧ a.party = b.party ∧ a.id = b.id ∧ a.vault = b.vault := by
  cases a; cases b; simp
instance : DecidableEq Cav := fun a b => decidable_of_iff _ (Cav.ext_iff' a b).symm
theorem Tok.ext_iff' (a b : Tok) : a = b ↔ a.key = b.key ∧ a.id = b.id ∧ a.cavs = b.cavs ∧ a.bound = b.bound ∧ a.tag = b.tag := by
  cases a; cases b; simp
instance : DecidableEq Tok := fun a b => decidable_of_iff _ (Tok.ext_iff' a b).symm
def cavV (c : Cav) : List Value := [.bool c.third, .string (bstr c.text), .int .u64 c.party, .string (bstr c.id), .string (bstr c.vault)]
theorem length_cavV (c : Cav) : (cavV c).length = 5 := rfl
theorem cavV_one (cs : List Cav) : ∀ v ∈ cs.flatMap cavV, v.oneCell' = true := by
  intro v hv
  obtain ⟨f, _, hf⟩ := List.mem_flatMap.1 hv
  simp only [cavV, List.mem_cons, List.not_mem_nil, or_false] at hf
  rcases hf with rfl | rfl | rfl | rfl | rfl <;> rfl
theorem length_cavsV (cs : List Cav) : (cs.flatMap cavV).length = cs.length * 5 := flat_length cavV 5 cs (fun _ _ => rfl)
def tokH (t : Tok) (A : Option Addr) (c : Nat) : List Value := [.int .u64 t.key, .string (bstr t.id), .slice A t.cavs.length c, .bool t.bound]
def tokV (t : Tok) (A : Option Addr) (c : Nat) : List Value := tokH t A c ++ byts t.tag
theorem tokV_one (t : Tok) (A : Option Addr) (c : Nat) : ∀ v ∈ tokV t A c, v.oneCell' = true := by
  intro v hv
  rcases List.mem_append.1 hv with h | h
  · simp only [tokH, List.mem_cons, List.not_mem_nil, or_false] at h
    rcases h with rfl | rfl | rfl | rfl <;> rfl
  · exact byts_one _ v h
structure Tok.Ok (t : Tok) : Prop where
  key : t.key < 18446744073709551616
  party : ∀ c ∈ t.cavs, c.party < 18446744073709551616
  tag : t.tag.length = 32
theorem length_tokV {t : Tok} (h : t.Ok) (A : Option Addr) (c : Nat) : (tokV t A c).length = 36 := by
  unfold tokV; rw [List.length_append, length_byts, h.tag]; rfl
def canC (c : Cav) : Bool :=
  if c.third then decide (c.text = []) && decide (c.id.length ≤ 1024) && decide (c.vault.length ≤ 1024)
  else decide (c.text.length ≤ 512) && decide (c.party = 0) && decide (c.id = []) && decide (c.vault = [])
def checkT (t : Tok) : Bool := decide (t.id.length ≤ 1024) && decide (t.cavs.length ≤ 64) && t.cavs.all canC
def cavF (c : Cav) : List Fd := if c.third then [(4, varL c.party), (5, c.id), (6, c.vault)] else [(3, c.text)]
def tokF (t : Tok) : List Fd := [(1, varL t.key), (2, t.id)] ++ t.cavs.flatMap cavF ++ [(7, [if t.bound then 1 else 0]), (8, t.tag)]
def bytesT (t : Tok) : List UInt8 := joinL (tokF t)
def stepT (t : Tok) (f : Fd) : Tok :=
  if f.1 = 1 then { t with key := (getL f.2).1 }
  else if f.1 = 2 then { t with id := f.2 }
  else if f.1 = 3 then { t with cavs := t.cavs ++ [⟨false, f.2, 0, [], []⟩] }
  else if f.1 = 4 then { t with cavs := t.cavs ++ [⟨true, [], (getL f.2).1, [], []⟩] }
  else if f.1 = 5 then { t with cavs := t.cavs.modify (t.cavs.length - 1) fun c => { c with id := f.2 } }
  else if f.1 = 6 then { t with cavs := t.cavs.modify (t.cavs.length - 1) fun c => { c with vault := f.2 } }
  else if f.1 = 7 then { t with bound := decide (f.2 = [1]) }
  else if f.1 = 8 then { t with tag := f.2.take 32 ++ t.tag.drop (f.2.take 32).length }
  else t
def zeroK : Tok := ⟨0, [], [], false, List.replicate 32 0⟩
def readT (fs : List Fd) : Tok := fs.foldl stepT zeroK
def decT (b : List UInt8) : Option Tok :=
  match allF b with
  | none => none
  | some fs => if checkT (readT fs) = true ∧ bytesT (readT fs) = b then some (readT fs) else none
theorem zeroK_ok : zeroK.Ok := ⟨by decide, by simp [zeroK], rfl⟩
theorem getL_one (l : List UInt8) : (getL l).1 < 18446744073709551616 := by
  rcases getL_back l with h | h
  · rw [h]; decide
  · exact h.2.2.2.1
theorem modify_party (cs : List Cav) (i : Nat) (g : Cav → Cav) (hg : ∀ c, (g c).party = c.party) (h : ∀ c ∈ cs, c.party < 18446744073709551616) : ∀ c ∈ cs.modify i g, c.party < 18446744073709551616 := by
  intro c hc
  obtain ⟨j, hj, rfl⟩ := List.getElem_of_mem hc
  rw [List.getElem_modify]
  rw [List.length_modify] at hj
  split
  · rw [hg]; exact h _ (List.getElem_mem _)
  · exact h _ (List.getElem_mem _)
theorem stepT_ok {t : Tok} (h : t.Ok) (f : Fd) : (stepT t f).Ok := by
  unfold stepT
  split; · exact ⟨getL_one _, h.party, h.tag⟩
  split; · exact ⟨h.key, h.party, h.tag⟩
  split
  · refine ⟨h.key, fun c hc => ?_, h.tag⟩
    rcases List.mem_append.1 hc with hc | hc
    · exact h.party c hc
    · rw [List.mem_singleton.1 hc]; show 0 < 18446744073709551616; decide
  split
  · refine ⟨h.key, fun c hc => ?_, h.tag⟩
    rcases List.mem_append.1 hc with hc | hc
    · exact h.party c hc
    · rw [List.mem_singleton.1 hc]; exact getL_one _
  split; · exact ⟨h.key, modify_party _ _ _ (fun _ => rfl) h.party, h.tag⟩
  split; · exact ⟨h.key, modify_party _ _ _ (fun _ => rfl) h.party, h.tag⟩
  split; · exact ⟨h.key, h.party, h.tag⟩
  split
  · refine ⟨h.key, h.party, ?_⟩
    have := h.tag
    show (f.2.take 32 ++ t.tag.drop (f.2.take 32).length).length = 32
    rw [List.length_append, List.length_drop, List.length_take]; omega
  exact h
theorem foldT_ok : ∀ (fs : List Fd) (t : Tok), t.Ok → (fs.foldl stepT t).Ok
  | [], _, h => h
  | f :: fs, t, h => foldT_ok fs (stepT t f) (stepT_ok h f)
theorem readT_ok (fs : List Fd) : (readT fs).Ok := foldT_ok fs zeroK zeroK_ok
theorem getL_var0 (n : Nat) (h : n < 18446744073709551616) : (getL (varL n)).1 = n := by
  have := getL_varL n [] h
  rw [List.append_nil] at this
  rw [this]
theorem modify_last (cs : List Cav) (c : Cav) (g : Cav → Cav) : (cs ++ [c]).modify ((cs ++ [c]).length - 1) g = cs ++ [g c] := by
  rw [List.length_append, List.length_singleton, Nat.add_sub_cancel]
  apply List.ext_getElem?
  intro i
  rw [List.getElem?_modify]
  by_cases hi : i < cs.length
  · rw [List.getElem?_append_left hi, List.getElem?_append_left hi]
    have : ¬ cs.length = i := by omega
    simp [this]
  · rw [List.getElem?_append_right (by omega), List.getElem?_append_right (by omega)]
    by_cases he : i = cs.length
    · rw [he, Nat.sub_self]; simp
    · rw [List.getElem?_eq_none (by simp; omega), List.getElem?_eq_none (by simp; omega)]; rfl
theorem fold_cav (t : Tok) (c : Cav) (hc : canC c = true) (hp : c.party < 18446744073709551616) : (cavF c).foldl stepT t = { t with cavs := t.cavs ++ [c] } := by
  unfold cavF
  unfold canC at hc
  obtain ⟨third, text, party, id, vault⟩ := c
  cases third with
  | true =>
    simp only [if_true, Bool.and_eq_true, decide_eq_true_eq] at hc
    obtain ⟨⟨rfl, _⟩, _⟩ := hc
    simp only [if_true, List.foldl_cons, List.foldl_nil]
    have h4 : stepT t (4, varL party) = { t with cavs := t.cavs ++ [⟨true, [], party, [], []⟩] } := by
      show Tok.mk t.key t.id (t.cavs ++ [⟨true, [], (getL (varL party)).1, [], []⟩]) t.bound t.tag = _
      rw [getL_var0 party hp]
    rw [h4]
    have h5 : ∀ (u : Tok), stepT u (5, id) = { u with cavs := u.cavs.modify (u.cavs.length - 1) fun c => { c with id := id } } := fun u => rfl
    have h6 : ∀ (u : Tok), stepT u (6, vault) = { u with cavs := u.cavs.modify (u.cavs.length - 1) fun c => { c with vault := vault } } := fun u => rfl
    rw [h5, h6]
    dsimp only
    rw [modify_last, modify_last]
  | false =>
    simp only [Bool.false_eq_true, if_false, Bool.and_eq_true, decide_eq_true_eq] at hc
    obtain ⟨⟨⟨_, rfl⟩, rfl⟩, rfl⟩ := hc
    rfl
theorem fold_cavs : ∀ (cs : List Cav) (t : Tok), cs.all canC = true → (∀ c ∈ cs, c.party < 18446744073709551616) → (cs.flatMap cavF).foldl stepT t = { t with cavs := t.cavs ++ cs }
  | [], t, _, _ => by simp
  | c :: cs, t, h, hp => by
    rw [List.all_cons, Bool.and_eq_true] at h
    rw [List.flatMap_cons, List.foldl_append, fold_cav t c h.1 (hp c List.mem_cons_self), fold_cavs cs _ h.2 (fun d hd => hp d (List.mem_cons_of_mem _ hd))]
    simp
theorem readT_tokF (t : Tok) (h : t.Ok) (hc : checkT t = true) : readT (tokF t) = t := by
  obtain ⟨key, id, cavs, bound, tag⟩ := t
  unfold checkT at hc
  rw [Bool.and_eq_true] at hc
  have ht : tag.length = 32 := h.tag
  unfold readT tokF
  rw [List.foldl_append, List.foldl_append]
  have h1 : ([(1, varL key), (2, id)] : List Fd).foldl stepT zeroK = ⟨key, id, [], false, List.replicate 32 0⟩ := by
    show Tok.mk (getL (varL key)).1 id [] false (List.replicate 32 0) = _
    rw [getL_var0 key h.key]
  dsimp only
  rw [h1, fold_cavs cavs _ hc.2 h.party]
  show Tok.mk key id ([] ++ cavs) (decide ([if bound = true then (1 : UInt8) else 0] = [1])) (tag.take 32 ++ (List.replicate 32 0).drop (tag.take 32).length) = _
  rw [List.take_of_length_le (by omega), ht, List.drop_of_length_le (by simp), List.append_nil, List.nil_append]
  cases bound <;> rfl
theorem can_len {c : Cav} (h : canC c = true) : ∀ f ∈ cavF c, f.2.length ≤ 1024 := by
  intro f hf
  unfold canC at h
  unfold cavF at hf
  have hv := length_varL c.party
  by_cases ht : c.third = true
  · rw [if_pos ht] at h hf
    simp only [Bool.and_eq_true, decide_eq_true_eq] at h
    simp only [List.mem_cons, List.not_mem_nil, or_false] at hf
    rcases hf with rfl | rfl | rfl
    · show (varL c.party).length ≤ 1024; omega
    · exact h.1.2
    · exact h.2
  · rw [if_neg ht] at h hf
    simp only [Bool.and_eq_true, decide_eq_true_eq] at h
    rw [List.mem_singleton.1 hf]
    show c.text.length ≤ 1024; omega
theorem tokF_len {t : Tok} (h : t.Ok) (hc : checkT t = true) : ∀ f ∈ tokF t, f.2.length ≤ 1024 := by
  intro f hf
  unfold checkT at hc
  simp only [Bool.and_eq_true, decide_eq_true_eq] at hc
  have hv := length_varL t.key
  unfold tokF at hf
  rcases List.mem_append.1 hf with hf | hf
  · rcases List.mem_append.1 hf with hf | hf
    · simp only [List.mem_cons, List.not_mem_nil, or_false] at hf
      rcases hf with rfl | rfl
      · show (varL t.key).length ≤ 1024; omega
      · exact hc.1.1
    · obtain ⟨c, hcm, hfc⟩ := List.mem_flatMap.1 hf
      exact can_len (List.all_eq_true.1 hc.2 c hcm) f hfc
  · simp only [List.mem_cons, List.not_mem_nil, or_false] at hf
    rcases hf with rfl | rfl
    · show 1 ≤ 1024; decide
    · show t.tag.length ≤ 1024; rw [h.tag]; decide
theorem allF_bytesT (t : Tok) (h : t.Ok) (hc : checkT t = true) : allF (bytesT t) = some (tokF t) :=
  allF_joinL (tokF t) (fun f hf => Nat.lt_of_le_of_lt (tokF_len h hc f hf) (by decide))
theorem decT_bytesT (t : Tok) (h : t.Ok) (hc : checkT t = true) : decT (bytesT t) = some t := by
  unfold decT
  rw [allF_bytesT t h hc]
  dsimp only
  rw [readT_tokF t h hc, if_pos ⟨hc, rfl⟩]
theorem decT_back (b : List UInt8) (t : Tok) (h : decT b = some t) : checkT t = true ∧ bytesT t = b ∧ t.Ok := by
  unfold decT at h
  split at h
  · cases h
  · rename_i fs _
    split at h
    · rename_i hh
      injection h with h
      subst h
      exact ⟨hh.1, hh.2, readT_ok _⟩
    · cases h
theorem decT_iff (b : List UInt8) (t : Tok) : decT b = some t ↔ checkT t = true ∧ bytesT t = b ∧ t.Ok :=
  ⟨decT_back b t, fun h => by rw [← h.2.1]; exact decT_bytesT t h.2.2 h.1⟩
theorem bytesT_inj {t u : Tok} (ht : t.Ok) (hc : checkT t = true) (hu : u.Ok) (hd : checkT u = true) (h : bytesT t = bytesT u) : t = u := by
  have h1 := decT_bytesT t ht hc
  rw [h, decT_bytesT u hu hd] at h1
  exact (Option.some.inj h1).symm
end Go.Proofs.Ythiebbhooigogaa
